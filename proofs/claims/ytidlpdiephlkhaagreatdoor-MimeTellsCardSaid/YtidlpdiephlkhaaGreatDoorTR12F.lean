/-
  The document's answer of layer 12: Parse.
-/
import Derived.Test.YtidlpdiephlkhaaGreatDoorT36
import Derived.Test.YtidlpdiephlkhaaGreatDoorTR12E
import Derived.Test.YtidlpdiephlkhaaGreatDoorT27
namespace Go.Proofs.YtidlpdiephlkhaaGreatDoor
open Go.RowKit

/-- What lies there between two steps: the result, the type that is read, the empty one. -/
structure RdK (w : World) (X Y : ByteArray) (ao : Option Addr) (n cap : Nat) (W : World) : Prop where
  b : Below w.heap.size w W
  n2 : TypAt W w.heap.size ⟨#[]⟩ ⟨#[]⟩ none 0 0
  n4 : TypAt W (w.heap.size + 1) X Y ao n cap
  n5 : TypAt W (w.heap.size + 1 + 1) ⟨#[]⟩ ⟨#[]⟩ none 0 0
section
variable {w W W' : World} {X Y : ByteArray} {ao : Option Addr} {n cap B : Nat}
theorem RdK.step (h : RdK w X Y ao n cap W) (k : Below W.heap.size W W') : RdK w X Y ao n cap W' := ⟨h.b.trans (k.mono h.b.size), h.n2.below k, h.n4.below k, h.n5.below k⟩
theorem RdK.up (h : RdK w X Y ao n cap W) (k : Below (w.heap.size + 1 + 1 + 1) W W') : RdK w X Y ao n cap W' :=
  ⟨h.b.trans (k.mono (by omega)), (k.block _ (by omega)).trans h.n2, (k.block _ (by omega)).trans h.n4, (k.block _ (by omega)).trans h.n5⟩
theorem RdK.up2 (h : RdK w X Y ao n cap W) (k : Below B W W') (hB : w.heap.size + 1 + 1 + 1 ≤ B) : RdK w X Y ao n cap W' := h.up (k.mono hB)
theorem typ_set {b : Nat} {c : Addr} (h : TypAt W b X Y ao n cap) (hne : c.block ≠ b) (u : Value) : TypAt (W.setCell c u) b X Y ao n cap := (Below.heap_setCell W c u b (fun e => hne e.symm)).trans h
theorem RdK.main (h : RdK w X Y ao n cap W) (X' : ByteArray) : RdK w X' Y ao n cap (W.setCell ⟨w.heap.size + 1, 0, none⟩ (.string X')) :=
  ⟨h.b.setCell (p := ⟨w.heap.size + 1, 0, none⟩) (by show w.heap.size ≤ w.heap.size + 1; omega) _, typ_set h.n2 (by show w.heap.size + 1 ≠ _; omega) _, h.n4.main X', typ_set h.n5 (by show w.heap.size + 1 ≠ _; omega) _⟩
theorem RdK.sub (h : RdK w X Y ao n cap W) (Y' : ByteArray) : RdK w X Y' ao n cap (W.setCell ⟨w.heap.size + 1, 1, none⟩ (.string Y')) :=
  ⟨h.b.setCell (p := ⟨w.heap.size + 1, 1, none⟩) (by show w.heap.size ≤ w.heap.size + 1; omega) _, typ_set h.n2 (by show w.heap.size + 1 ≠ _; omega) _, h.n4.sub Y', typ_set h.n5 (by show w.heap.size + 1 ≠ _; omega) _⟩
theorem RdK.pars (h : RdK w X Y ao n cap W) (ao' : Option Addr) (n' cap' : Nat) : RdK w X Y ao' n' cap' (W.setCell ⟨w.heap.size + 1, 2, none⟩ (.slice ao' n' cap')) :=
  ⟨h.b.setCell (p := ⟨w.heap.size + 1, 2, none⟩) (by show w.heap.size ≤ w.heap.size + 1; omega) _, typ_set h.n2 (by show w.heap.size + 1 ≠ _; omega) _, h.n4.pars ao' n' cap', typ_set h.n5 (by show w.heap.size + 1 ≠ _; omega) _⟩
theorem RdK.nil (h : RdK w X Y ao n cap W) :
    (((W.setCell ⟨w.heap.size, 0, none⟩ (.string ⟨#[]⟩)).setCell ⟨w.heap.size, 1, none⟩ (.string ⟨#[]⟩)).setCell ⟨w.heap.size, 2, none⟩ (.slice none 0 0)).cell? ⟨w.heap.size, 0, none⟩ = some (.string ⟨#[]⟩) ∧
    (((W.setCell ⟨w.heap.size, 0, none⟩ (.string ⟨#[]⟩)).setCell ⟨w.heap.size, 1, none⟩ (.string ⟨#[]⟩)).setCell ⟨w.heap.size, 2, none⟩ (.slice none 0 0)).cell? ⟨w.heap.size, 1, none⟩ = some (.string ⟨#[]⟩) ∧
    (((W.setCell ⟨w.heap.size, 0, none⟩ (.string ⟨#[]⟩)).setCell ⟨w.heap.size, 1, none⟩ (.string ⟨#[]⟩)).setCell ⟨w.heap.size, 2, none⟩ (.slice none 0 0)).cell? ⟨w.heap.size, 2, none⟩ = some (.slice none 0 0) ∧
    Below w.heap.size w (((W.setCell ⟨w.heap.size, 0, none⟩ (.string ⟨#[]⟩)).setCell ⟨w.heap.size, 1, none⟩ (.string ⟨#[]⟩)).setCell ⟨w.heap.size, 2, none⟩ (.slice none 0 0)) := by
  obtain ⟨a0, a1, a2, _⟩ := (h.n2.put ⟨#[]⟩ ⟨#[]⟩ none 0 0).cells
  exact ⟨a0, a1, a2, below_putT h.b (Nat.le_refl _) _ _ _⟩
end
theorem own_up {W W' : World} {P B : Nat} {v : Value} {l : List ParC} (h : ParsOwn W P v l) (k : Below B W W') (hB : W.heap.size ≤ B) : ParsOwn W' P v l := own_below h (k.mono hB)
/-- A byte at a place, or none. -/
theorem cut_place (s : ByteArray) (c : UInt8) (j : Nat) (hj : j ≤ s.size) : (cutA c (s.data.toList.drop j) = none ∧ (j = s.size ∨ ∃ h : j < s.size, ((s[j].toNat : Int) == (c.toNat : Int)) = false)) ∨
    (∃ h : j < s.size, ((s[j].toNat : Int) == (c.toNat : Int)) = true ∧ cutA c (s.data.toList.drop j) = some (s.data.toList.drop (j + 1))) := by
  have hl : s.data.toList.length = s.size := rfl
  by_cases hlt : j < s.size
  · rw [cons_atC s j hlt, cutA_cons]
    by_cases hc : s[j] = c
    · rw [if_pos hc]
      exact .inr ⟨hlt, by rw [hc, beq_iff_eq], rfl⟩
    · rw [if_neg hc]
      refine .inl ⟨rfl, .inr ⟨hlt, ?_⟩⟩
      rw [beq_eq_false_iff_ne]
      exact fun e => hc (UInt8.toNat_inj.1 (by omega))
  · rw [List.drop_of_length_le (by rw [hl]; omega)]
    exact .inl ⟨rfl, .inl (by omega)⟩

theorem bne_f {a b : Int} (h : (a == b) = false) : (a != b) = true := by
  unfold bne
  rw [h]
  rfl
theorem bne_t {a b : Int} (h : (a == b) = true) : (a != b) = false := by
  unfold bne
  rw [h]
  rfl
set_option maxRecDepth 100000 in
set_option maxHeartbeats 16000000 in
theorem r12parse_own (s : ByteArray) (w : World) (hs : s.size ≤ 1000000) :
    Calls Tryz.prog 61 #[.string s] w fun e w' => ∃ v, e = .returned (.tuple #[typeV (parseT s.data.toList).1 v, .int .i64 (parseT s.data.toList).2]) ∧ ParsOwn w' w.heap.size v (parseT s.data.toList).1.2.2 ∧ Below w.heap.size w w' := by
  have hl : s.data.toList.length = s.size := rfl
  obtain ⟨P, hP⟩ : ∃ P : Ending → World → Prop, (fun e w' => ∃ v, e = .returned (.tuple #[typeV (parseT s.data.toList).1 v, .int .i64 (parseT s.data.toList).2]) ∧ ParsOwn w' w.heap.size v (parseT s.data.toList).1.2.2 ∧ Below w.heap.size w w') = P := ⟨_, rfl⟩
  rw [hP]
  have HNone : Hid (parseC s.data.toList = none → ∀ w', Below w.heap.size w w' → P (.returned (.tuple #[.agg #[.string ⟨#[]⟩, .string ⟨#[]⟩, .slice none 0 0], .int .i64 2])) w') := Lib.hid fun h w' hb => by
    rw [← hP]
    have e : parseT s.data.toList = (([], [], []), 2) := by unfold parseT; rw [h]
    refine ⟨.slice none 0 0, ?_, ?_, hb⟩
    · rw [e]
      rfl
    · rw [e]
      exact World.ownsRow_nil _ _ _ _
  have HSome : Hid (∀ t, parseC s.data.toList = some t → ∀ w' ao cap, ParsOwn w' w.heap.size (.slice ao t.2.2.length cap) t.2.2 → Below w.heap.size w w' → P (.returned (.tuple #[.agg #[.string (textQ t.1), .string (textQ t.2.1), .slice ao t.2.2.length cap], .int .i64 0])) w') := Lib.hid fun t h w' ao cap ha hb => by
    rw [← hP]
    have e : parseT s.data.toList = (t, 0) := by unfold parseT; rw [h]
    refine ⟨.slice ao t.2.2.length cap, ?_, ?_, hb⟩
    · rw [e]
      rfl
    · rw [e]
      exact ha
  obtain ⟨w0, hw0⟩ : ∃ w0, ((w.alloc (.cells #[.string ⟨#[]⟩, .string ⟨#[]⟩, .slice none 0 0] 26)).alloc (.cells #[.string ⟨#[]⟩, .string ⟨#[]⟩, .slice none 0 0] 26)).alloc (.cells #[.string ⟨#[]⟩, .string ⟨#[]⟩, .slice none 0 0] 26) = w0 := ⟨_, rfl⟩
  have k0 : RdK w ⟨#[]⟩ ⟨#[]⟩ none 0 0 w0 := by
    rw [← hw0]
    have a1 := typ_new w ⟨#[]⟩ ⟨#[]⟩ none 0 0
    have a2 := typ_new (w.alloc (.cells #[.string ⟨#[]⟩, .string ⟨#[]⟩, .slice none 0 0] 26)) ⟨#[]⟩ ⟨#[]⟩ none 0 0
    have a3 := typ_new ((w.alloc (.cells #[.string ⟨#[]⟩, .string ⟨#[]⟩, .slice none 0 0] 26)).alloc (.cells #[.string ⟨#[]⟩, .string ⟨#[]⟩, .slice none 0 0] 26)) ⟨#[]⟩ ⟨#[]⟩ none 0 0
    rw [World.size_alloc] at a2
    rw [World.size_alloc, World.size_alloc] at a3
    exact ⟨(((Below.refl _ _).alloc (Nat.le_refl _) _).alloc (by simp) _).alloc (by simp; omega) _, (a1.below ((Below.refl _ _).alloc (Nat.le_refl _) _)).below ((Below.refl _ _).alloc (Nat.le_refl _) _), a2.below ((Below.refl _ _).alloc (Nat.le_refl _) _), a3⟩
  obtain ⟨c0, c1, c2, c3, c4, c5⟩ := k0.n5.cells
  obtain ⟨w00, hw00⟩ : ∃ W, ((w0.setCell ⟨w.heap.size + 1 + 1, 0, none⟩ (.string ⟨#[]⟩)).setCell ⟨w.heap.size + 1 + 1, 1, none⟩ (.string ⟨#[]⟩)).setCell ⟨w.heap.size + 1 + 1, 2, none⟩ (.slice none 0 0) = W := ⟨_, rfl⟩
  have K0 : Hid (RdK w ⟨#[]⟩ ⟨#[]⟩ none 0 0 w00) := Lib.hid (by
    rw [← hw00]
    exact ⟨below_putT k0.b (by omega) _ _ _, typ_set (typ_set (typ_set k0.n2 (by show w.heap.size + 1 + 1 ≠ _; omega) _) (by show w.heap.size + 1 + 1 ≠ _; omega) _) (by show w.heap.size + 1 + 1 ≠ _; omega) _, typ_set (typ_set (typ_set k0.n4 (by show w.heap.size + 1 + 1 ≠ _; omega) _) (by show w.heap.size + 1 + 1 ≠ _; omega) _) (by show w.heap.size + 1 + 1 ≠ _; omega) _, k0.n5.put ⟨#[]⟩ ⟨#[]⟩ none 0 0⟩)
  have hsk0 := fun W => r12skip_any s 0 0 W rfl (Nat.zero_le _) (by omega)
  clear k0 hP
  go_enter Tryz.func61, Tryz.ntmps61
  go_wp2_with fail
  refine (hsk0 _).mono ?_
  rintro e w1 ⟨⟨p1, rfl, _, hp1, hd1⟩, h9⟩
  obtain rfl := h9.symm
  clear h9 hsk0
  have hwd := fun W => r12word_any s p1 _ W rfl hp1 (by omega)
  obtain ⟨M, hM⟩ : ∃ M, textQ (wordC (s.data.toList.drop p1)) = M := ⟨_, rfl⟩
  simp only [hM] at hwd
  go_wp2_with fail
  refine (hwd _).mono ?_
  rintro e w2 ⟨⟨p2, rfl, h12, hp2, hd2⟩, hb⟩
  have K2 := Lib.hid (K0.out.step hb)
  have HM := Lib.hid hM
  clear hwd hb K0 hM
  rw [List.drop_zero] at hd1
  have hread := parse_sameC s.data.toList
  unfold readT12 at hread
  rw [← hd1.out, ← hd2.out] at hread
  rcases cut_place s 47 p2 hp2 with ⟨hcut, hway⟩ | ⟨hlt, hbyte, hcut⟩
  · have HFN : Hid (parseC s.data.toList = none) := Lib.hid (by rw [← hread, hcut])
    clear hread hcut
    rcases hway with he | ⟨hlt, hbyte⟩
    · have f1 : (s.size : Int) ≤ (p2 : Int) := by omega
      obtain ⟨x0, x1, x2, x3, x4, x5⟩ := K2.out.n2.cells
      obtain ⟨y0, y1, y2, _⟩ := K2.out.n5.cells
      obtain ⟨k0, k1, k2, bb⟩ := K2.out.nil
      have HE := Lib.hid (HNone.out HFN.out _ bb)
      clear bb
      go_wp2
      refine bodyPost_ret (v := .tuple #[.agg #[.string ⟨#[]⟩, .string ⟨#[]⟩, .slice none 0 0], .int .i64 2]) (by simp [results, Tryz.f61, go_sem, k0, k1, k2]) rfl HE.out
    · have f1 : ¬ (s.size : Int) ≤ (p2 : Int) := by omega
      have f2 : ((s[p2].toNat : Int) != 47) = true := bne_f hbyte
      obtain ⟨x0, x1, x2, x3, x4, x5⟩ := K2.out.n2.cells
      obtain ⟨y0, y1, y2, _⟩ := K2.out.n5.cells
      obtain ⟨k0, k1, k2, bb⟩ := K2.out.nil
      have HE := Lib.hid (HNone.out HFN.out _ bb)
      clear bb
      go_wp2
      refine bodyPost_ret (v := .tuple #[.agg #[.string ⟨#[]⟩, .string ⟨#[]⟩, .slice none 0 0], .int .i64 2]) (by simp [results, Tryz.f61, go_sem, k0, k1, k2]) rfl HE.out
  · rw [hcut] at hread
    simp only at hread
    have f1 : ¬ (s.size : Int) ≤ (p2 : Int) := by omega
    have f2 : ((s[p2].toNat : Int) != 47) = false := bne_t hbyte
    have hw1 : IntKind.i64.wrap ((p2 : Int) + 1) = (p2 : Int) + 1 := by rw [IntWalk.i64_in _ (by omega)]
    obtain ⟨c0, c1, c2, c3, c4, c5⟩ := K2.out.n4.cells
    obtain ⟨wa, hwa⟩ : ∃ wa, w2.setCell ⟨w.heap.size + 1, 0, none⟩ (.string M) = wa := ⟨_, rfl⟩
    have KA : Hid (RdK w M ⟨#[]⟩ none 0 0 wa) := Lib.hid (by rw [← hwa]; exact K2.out.main M)
    have hwd := fun W => r12word_any s (p2 + 1) ((p2 : Int) + 1) W (by omega) (by omega) (by omega)
    obtain ⟨S, hS⟩ : ∃ M, textQ (wordC (s.data.toList.drop (p2 + 1))) = M := ⟨_, rfl⟩
    simp only [hS] at hwd
    clear hcut hbyte K2
    go_wp2_with fail
    refine (hwd _).mono ?_
    rintro e w3 ⟨⟨p3, rfl, h23, hp3, hd3⟩, hb⟩
    have K3 := Lib.hid (KA.out.step hb)
    have HS := Lib.hid hS
    clear hwd hb KA hS c0 c1 c2 c3 c4 c5
    obtain ⟨c0, c1, c2, c3, c4, c5⟩ := K3.out.n4.cells
    obtain ⟨wb, hwb⟩ : ∃ wb, w3.setCell ⟨w.heap.size + 1, 1, none⟩ (.string S) = wb := ⟨_, rfl⟩
    have KB : Hid (RdK w M S none 0 0 wb) := Lib.hid (by rw [← hwb]; exact K3.out.sub S)
    have hsk := fun W => r12skip_any s p3 _ W rfl hp3 (by omega)
    clear K3
    go_wp2_with fail
    refine (hsk _).mono ?_
    rintro e w4 ⟨⟨p4, rfl, h34, hp4, hd4⟩, h9⟩
    obtain rfl := h9.symm
    clear h9 hsk c0 c1 c2 c3 c4 c5
    rw [← hd3.out, ← hd4.out] at hread
    obtain ⟨F, hF⟩ : ∃ F, moreQ (s.data.toList.length + 1) [] (s.data.toList.drop p4) = F := ⟨_, rfl⟩
    rw [hF] at hread
    have HFF : Hid (F = none → parseC s.data.toList = none) := Lib.hid fun h => by rw [← hread, h]
    have HFS : Hid (∀ l, F = some l → parseC s.data.toList = if rightC (wordC (s.data.toList.drop p1), wordC (s.data.toList.drop (p2 + 1)), l) = true then some (wordC (s.data.toList.drop p1), wordC (s.data.toList.drop (p2 + 1)), l) else none) := Lib.hid fun l h => by
      rw [← hread, h]
    have HF0 : Hid ((s.data.toList.drop p4).length < s.data.toList.length + 1 ∧ moreQ (s.data.toList.length + 1) [] (s.data.toList.drop p4) = F) := Lib.hid ⟨by rw [List.length_drop]; omega, hF⟩
    have HKB : Hid (RdK w M S none 0 0 wb ∧ ParsOwn wb (w.heap.size + 1 + 1 + 1) (.slice none 0 0) []) := Lib.hid ⟨KB.out, World.ownsRow_nil _ _ _ _⟩
    clear hread hF KB hd1 hd2 hd3 hd4
    go_wp2
    go_loopw [7] (fun iv wr => ∃ (j : Nat) (l : List ParC) (ao : Option Addr) (cap n : Nat), iv = .int .i64 j ∧ j ≤ s.size ∧ Hid (RdK w M S ao l.length cap wr ∧ ParsOwn wr (w.heap.size + 1 + 1 + 1) (.slice ao l.length cap) l) ∧ Hid ((s.data.toList.drop j).length < n ∧ moreQ n l (s.data.toList.drop j) = F) ∧ l.length ≤ j ∧ Hid (∀ p ∈ l, p.1.length ≤ 1000000 ∧ p.2.length ≤ 1000000)) (fun iv _ => s.size - (intOf iv).toNat)
    case atStart => exact ⟨p4, [], none, 0, s.data.toList.length + 1, rfl, hp4, HKB, HF0, Nat.zero_le _, Lib.hid (fun p hp => by cases hp)⟩
    case round =>
      obtain ⟨j, l, ao, cap, n, rfl, hj, hk, hst, hlj, HLP⟩ := hrel
      clear HKB HF0
      obtain ⟨m, hm⟩ : ∃ m, l.length = m := ⟨_, rfl⟩
      have Hm := Lib.hid hm
      have KR : Hid (RdK w M S ao m cap wr ∧ ParsOwn wr (w.heap.size + 1 + 1 + 1) (.slice ao m cap) l) := Lib.hid (by rw [← hm]; exact hk.out)
      rw [hm] at hlj
      obtain ⟨hn, hmo⟩ := hst.out
      obtain ⟨n, rfl⟩ : ∃ m, n = m + 1 := ⟨n - 1, by omega⟩
      unfold moreQ at hmo
      clear hk hm hst
      by_cases hlt : j < s.size
      · rcases cut_place s 59 j hj with ⟨hcut, hway⟩ | ⟨_, hbyte, hcut⟩
        · rcases hway with he | ⟨_, hbyte⟩
          · omega
          · rw [hcut] at hmo
            have hne : ¬ s.data.toList.drop j = [] := fun e => by
              have := congrArg List.length e
              rw [List.length_drop, hl] at this
              simp at this
              omega
            simp only at hmo
            rw [if_neg hne] at hmo
            have HFN := Lib.hid (HFF.out hmo.symm)
            have f1 : ((s[j].toNat : Int) != 59) = true := bne_f hbyte
            have K9 := Lib.hid KR.out.1
            clear hcut hmo hne hbyte
            obtain ⟨x0, x1, x2, x3, x4, x5⟩ := K9.out.n2.cells
            obtain ⟨y0, y1, y2, _⟩ := K9.out.n5.cells
            obtain ⟨k0, k1, k2, bb⟩ := K9.out.nil
            have HE := Lib.hid (HNone.out HFN.out _ bb)
            clear bb
            go_wp2
            refine bodyPost_ret (v := .tuple #[.agg #[.string ⟨#[]⟩, .string ⟨#[]⟩, .slice none 0 0], .int .i64 2]) (by simp [results, Tryz.f61, go_sem, k0, k1, k2]) rfl HE.out
        · rw [hcut] at hmo
          simp only at hmo
          have f1 : ((s[j].toNat : Int) != 59) = false := bne_t hbyte
          have hw1 : IntKind.i64.wrap ((j : Int) + 1) = (j : Int) + 1 := by rw [IntWalk.i64_in _ (by omega)]
          have hsk := fun W => r12skip_any s (j + 1) ((j : Int) + 1) W (by omega) (by omega) (by omega)
          clear hcut hbyte
          go_wp2_with fail
          refine (hsk _).mono ?_
          rintro e w7 ⟨⟨j1, rfl, hjj1, hj1, hd1⟩, h9⟩
          obtain rfl := h9.symm
          clear h9 hsk
          have hwd := fun W => r12word_any s j1 _ W rfl hj1 (by omega)
          obtain ⟨N, hN⟩ : ∃ M, textQ (wordC (s.data.toList.drop j1)) = M := ⟨_, rfl⟩
          simp only [hN] at hwd
          go_wp2_with fail
          refine (hwd _).mono ?_
          rintro e w5 ⟨⟨j2, rfl, hj12, hj2, hd2⟩, hb⟩
          have K5 := Lib.hid (And.intro (KR.out.1.step hb) (own_below KR.out.2 hb))
          have HN := Lib.hid hN
          have HNL : Hid ((wordC (s.data.toList.drop j1)).length ≤ 1000000) := Lib.hid (by
            unfold wordC
            rw [List.length_map]
            have := take_le inNameC (s.data.toList.drop j1)
            rw [List.length_drop] at this
            omega)
          clear hwd hb KR hN
          rw [← hd1.out] at hmo
          have Hn : Hid ((s.data.toList.drop j).length < n + 1) := Lib.hid hn
          unfold paramC at hmo
          rw [← hd2.out] at hmo
          clear hd1 hd2 hn
          rcases cut_place s 61 j2 hj2 with ⟨hcut, hway⟩ | ⟨hlt2, hbyte, hcut⟩
          · rw [hcut] at hmo
            have HFN := Lib.hid (HFF.out hmo.symm)
            have K9 := Lib.hid K5.out.1
            clear hcut hmo
            rcases hway with he | ⟨hlt2, hbyte⟩
            · have f3 : (s.size : Int) ≤ (j2 : Int) := by omega
              obtain ⟨x0, x1, x2, x3, x4, x5⟩ := K9.out.n2.cells
              obtain ⟨y0, y1, y2, _⟩ := K9.out.n5.cells
              obtain ⟨k0, k1, k2, bb⟩ := K9.out.nil
              have HE := Lib.hid (HNone.out HFN.out _ bb)
              clear bb
              go_wp2
              refine bodyPost_ret (v := .tuple #[.agg #[.string ⟨#[]⟩, .string ⟨#[]⟩, .slice none 0 0], .int .i64 2]) (by simp [results, Tryz.f61, go_sem, k0, k1, k2]) rfl HE.out
            · have f3 : ¬ (s.size : Int) ≤ (j2 : Int) := by omega
              have f4 : ((s[j2].toNat : Int) != 61) = true := bne_f hbyte
              obtain ⟨x0, x1, x2, x3, x4, x5⟩ := K9.out.n2.cells
              obtain ⟨y0, y1, y2, _⟩ := K9.out.n5.cells
              obtain ⟨k0, k1, k2, bb⟩ := K9.out.nil
              have HE := Lib.hid (HNone.out HFN.out _ bb)
              clear bb
              go_wp2
              refine bodyPost_ret (v := .tuple #[.agg #[.string ⟨#[]⟩, .string ⟨#[]⟩, .slice none 0 0], .int .i64 2]) (by simp [results, Tryz.f61, go_sem, k0, k1, k2]) rfl HE.out
          · rw [hcut] at hmo
            simp only at hmo
            have f3 : ¬ (s.size : Int) ≤ (j2 : Int) := by omega
            have f4 : ((s[j2].toNat : Int) != 61) = false := bne_t hbyte
            have hw2 : IntKind.i64.wrap ((j2 : Int) + 1) = (j2 : Int) + 1 := by rw [IntWalk.i64_in _ (by omega)]
            obtain ⟨j3, hj3⟩ : ∃ k, j2 + 1 = k := ⟨_, rfl⟩
            have HJ3 := Lib.hid hj3
            rw [hj3] at hmo
            have hj3s : j3 ≤ s.size := by omega
            have hjj : j + 2 ≤ j3 := by omega
            have HVN : Hid (valueC (s.data.toList.drop j3) = none → F = none) := Lib.hid fun h => by rw [← hmo, h]
            have HVS : Hid (∀ v u, valueC (s.data.toList.drop j3) = some (v, u) → moreQ n (l ++ [(wordC (s.data.toList.drop j1), v)]) (u.dropWhile gapC) = F) := Lib.hid fun v u h => by rw [← hmo, h]
            obtain ⟨BB, hBB⟩ : ∃ B, w5.heap.size = B := ⟨_, rfl⟩
            have hB3 : w.heap.size + 1 + 1 + 1 ≤ BB := by rw [← hBB]; exact K5.out.1.n5.lt
            have HBB : Hid (w5.heap.size = BB) := Lib.hid hBB
            have hBB2 : w5.heap.size ≤ BB := by omega
            have hBB3 : BB ≤ w5.heap.size := by omega
            clear hmo hcut hbyte hj3 hBB
            rcases cut_place s 34 j3 hj3s with ⟨hcut, hway⟩ | ⟨hlt3, hbyte, hcut⟩
            · have Hcn := Lib.hid hcut
              have f5 : (¬ (j2 : Int) + 1 < (s.size : Int)) ∨ ((j2 : Int) + 1 < (s.size : Int) ∧ ∃ h : j2 + 1 < s.size, ((s[j2 + 1].toNat : Int) == 34) = false) := by
                have e := HJ3.out
                rcases hway with he | ⟨h, hbyte⟩
                · exact .inl (by omega)
                · subst e
                  exact .inr ⟨by omega, h, hbyte⟩
              clear hcut hway
              rcases f5 with f5 | ⟨f5, hlt3, f6⟩
              · go_wp2
                go_loopw [7, 10] (fun iv vv wr => ∃ (j : Nat) (acc : TextA), j3 ≤ j ∧ j ≤ s.size ∧ iv = .int .i64 j ∧ BytesC wr BB vv acc ∧ acc.length ≤ j ∧ Hid (acc ++ (s.data.toList.drop j).takeWhile tokC = (s.data.toList.drop j3).takeWhile tokC ∧ (s.data.toList.drop j).dropWhile tokC = (s.data.toList.drop j3).dropWhile tokC) ∧ Below BB w5 wr) (fun iv _ _ => s.size - (intOf iv).toNat)
                case atStart => exact ⟨j3, [], Nat.le_refl _, by omega, congrArg (Value.int .i64) (by have := HJ3.out; omega), bytes_nil _ _, by simp, Lib.hid ⟨List.nil_append _, rfl⟩, Below.refl _ _⟩
                case round =>
                  obtain ⟨j, acc, hj4, hj, rfl, hown, hal, hh, hbx⟩ := hrel
                  obtain ⟨aob, capb, rfl⟩ := bytes_slice hown
                  obtain ⟨kb, hkb⟩ : ∃ k, acc.length = k := ⟨_, rfl⟩
                  have Hob : Hid (BytesC wr BB (.slice aob kb capb) acc) := Lib.hid (by rw [← hkb]; exact hown)
                  have Hkb := Lib.hid hkb
                  rw [hkb] at hal ⊢
                  clear hown hkb
                  have hend : Hid ((s.data.toList.drop j).takeWhile tokC = [] → acc = (s.data.toList.drop j3).takeWhile tokC) := Lib.hid fun h => by
                    have := hh.out.1
                    rw [h, List.append_nil] at this
                    exact this
                  by_cases hgo : ∃ h : j < s.size, tokC s[j] = true
                  · obtain ⟨hlt, htk⟩ := hgo
                    obtain ⟨hh1, hh2⟩ := hh.out
                    rw [cons_atC s j hlt, List.takeWhile_cons, htk, if_pos rfl] at hh1
                    rw [cons_atC s j hlt, List.dropWhile_cons, htk, if_pos rfl] at hh2
                    have hle := fun W => r12letter_any s[j] W
                    simp only [htk] at hle
                    obtain ⟨c, hc⟩ : ∃ c, s[j] = c := ⟨_, rfl⟩
                    rw [hc] at hh1
                    have hcn : (s[j].toNat : Int) = c.toNat := by rw [hc]
                    have HH : Hid ((acc ++ [c]) ++ (s.data.toList.drop (j + 1)).takeWhile tokC = (s.data.toList.drop j3).takeWhile tokC ∧ (s.data.toList.drop (j + 1)).dropWhile tokC = (s.data.toList.drop j3).dropWhile tokC) := Lib.hid ⟨by rw [← hh1]; simp, hh2⟩
                    clear hh hh1 hh2 hc htk hend
                    obtain ⟨wa, hwa⟩ : ∃ wa, wr.alloc (.cells #[.int .u8 (s[j].toNat : Int)] 5) = wa := ⟨_, rfl⟩
                    have la : Below wr.heap.size wr wa := by rw [← hwa]; exact (Below.refl _ _).alloc (Nat.le_refl _) _
                    have Oa := Lib.hid (bytes_below Hob.out la)
                    have Ca : Hid (wa.cell? ⟨wr.heap.size, 0, none⟩ = some (.int .u8 (c.toNat : Int))) := Lib.hid (by
                      rw [← hwa, ← hcn]
                      exact Lib.cell_of_heap (heap_alloc_new wr _) 0)
                    have Ba := Lib.hid (hbx.trans (la.mono (Nat.le_trans hBB3 hbx.size)))
                    have e9 : (acc ++ [c]).length = kb + 1 := by rw [List.length_append, Hkb.out]; rfl
                    have E9 := Lib.hid e9
                    clear la Hob hbx e9 hcn
                    go_wp2_with (first | (go_at_call 92; refine (hle _).mono ?_; rintro e w8 ⟨rfl, h9⟩; obtain rfl := h9.symm) | (at_builtin; refine append_byteC rfl _ _ rfl BB (.slice aob kb capb) acc c rfl Oa.out (Nat.le_trans (by omega) Ba.out.size) (by rw [Hkb.out]; omega) wr.heap.size 1 rfl Ca.out ?_))
                    intro v' w9 hown9 hgrow
                    have b9 : Below BB w5 w9 := Ba.out.grown hgrow (Nat.le_trans (by omega) Ba.out.size) (fun q hq => (Oa.out.lt q hq).1)
                    obtain ⟨ao9, cap9, rfl⟩ := bytes_slice hown9
                    have O9 := Lib.hid hown9
                    rw [E9.out]
                    have o9 : BytesC w9 BB (.slice ao9 (kb + 1) cap9) (acc ++ [c]) := by rw [← E9.out]; exact O9.out
                    have O10 := Lib.hid o9
                    have hl9 : (acc ++ [c]).length ≤ j + 1 := by rw [E9.out]; omega
                    clear hown9 hgrow o9 Oa Ba Ca
                    go_wp2
                    go_roundw
                    case rel => exact ⟨j + 1, _, by omega, by omega, by go_num, O10.out, hl9, HH, b9⟩
                    case measure => simp [intOf]; omega
                  · have hstop : (s.data.toList.drop j).takeWhile tokC = [] ∧ (s.data.toList.drop j).dropWhile tokC = s.data.toList.drop j := by
                      by_cases hlt : j < s.size
                      · have hf : tokC s[j] = false := by
                          cases h : tokC s[j] with
                          | false => rfl
                          | true => exact absurd ⟨hlt, h⟩ hgo
                        rw [cons_atC s j hlt, List.takeWhile_cons, List.dropWhile_cons, hf]
                        exact ⟨rfl, rfl⟩
                      · rw [List.drop_of_length_le (by rw [hl]; omega)]
                        exact ⟨rfl, rfl⟩
                    have hacc := hend.out hstop.1
                    have hdr := hh.out.2
                    rw [hstop.2] at hdr
                    have hval : valueC (s.data.toList.drop j3) = if tokT acc = true then some (acc, s.data.toList.drop j) else none := by
                      unfold valueC
                      rw [Hcn.out, hacc, hdr]
                    have htn := fun W => r12token_any (textQ acc) W (by show acc.length ≤ _; rw [Hkb.out]; omega)
                    simp only [show (textQ acc).data.toList = acc from rfl] at htn
                    obtain ⟨A, hA⟩ : ∃ A, textQ acc = A := ⟨_, rfl⟩
                    simp only [hA] at htn
                    have hcv : (convert 67 9 (.slice aob kb capb)).run Tryz.prog wr = .ok (.string A) wr := by
                      rw [← hA]
                      exact conv_own4 Hob.out
                    have hcase : (¬ j < s.size) ∨ ∃ h : j < s.size, ∀ W, Calls Tryz.prog 92 #[.int .u8 (s[j].toNat : Int)] W fun e w' => e = .returned (.bool false) ∧ w' = W := by
                      by_cases hlt : j < s.size
                      · refine .inr ⟨hlt, fun W => ?_⟩
                        have := r12letter_any s[j] W
                        have hf : tokC s[j] = false := by
                          cases h : tokC s[j] with
                          | false => rfl
                          | true => exact absurd ⟨hlt, h⟩ hgo
                        rw [hf] at this
                        exact this
                      · exact .inl hlt
                    clear hh hgo hend hstop hacc hdr
                    cases htt : tokT acc with
                    | false =>
                      rw [htt, if_neg (by simp)] at hval
                      simp only [htt] at htn
                      have HFN := Lib.hid (HFF.out (HVN.out hval))
                      have KX := Lib.hid (K5.out.1.up2 hbx (by omega))
                      clear hval hbx K5 htt
                      rcases hcase with hcl | ⟨hlt, hcl⟩
                      · clear hA
                        obtain ⟨x0, x1, x2, x3, x4, x5⟩ := KX.out.n2.cells
                        obtain ⟨y0, y1, y2, _⟩ := KX.out.n5.cells
                        obtain ⟨k0, k1, k2, bb⟩ := KX.out.nil
                        have HE := Lib.hid (HNone.out HFN.out _ bb)
                        clear bb
                        go_wp2_with (go_at_call 93; refine (htn _).mono ?_; rintro e w8 ⟨rfl, h9⟩; obtain rfl := h9.symm)
                        refine bodyPost_ret (v := .tuple #[.agg #[.string ⟨#[]⟩, .string ⟨#[]⟩, .slice none 0 0], .int .i64 2]) (by simp [results, Tryz.f61, go_sem, k0, k1, k2]) rfl HE.out
                      · clear hA
                        obtain ⟨x0, x1, x2, x3, x4, x5⟩ := KX.out.n2.cells
                        obtain ⟨y0, y1, y2, _⟩ := KX.out.n5.cells
                        obtain ⟨k0, k1, k2, bb⟩ := KX.out.nil
                        have HE := Lib.hid (HNone.out HFN.out _ bb)
                        clear bb
                        go_wp2_with (first | (go_at_call 92; refine (hcl _).mono ?_; rintro e w8 ⟨rfl, h9⟩; obtain rfl := h9.symm) | (go_at_call 93; refine (htn _).mono ?_; rintro e w8 ⟨rfl, h9⟩; obtain rfl := h9.symm))
                        refine bodyPost_ret (v := .tuple #[.agg #[.string ⟨#[]⟩, .string ⟨#[]⟩, .slice none 0 0], .int .i64 2]) (by simp [results, Tryz.f61, go_sem, k0, k1, k2]) rfl HE.out
                    | true =>
                      rw [htt, if_pos rfl] at hval
                      simp only [htt] at htn
                      have Hmo : Hid (moreQ n (l ++ [(wordC (s.data.toList.drop j1), acc)]) ((s.data.toList.drop j).dropWhile gapC) = F) := Lib.hid (HVS.out _ _ hval)
                      have hjx : j ≤ s.size := hj
                      have KX := Lib.hid (And.intro (K5.out.1.up2 hbx (by omega)) (own_up K5.out.2 hbx (by omega)))
                      clear hval hbx K5 htt
                      rcases hcase with hcl | ⟨hlt, hcl⟩
                      · skip
                        have k9 := KX.out.1
                        obtain ⟨c0, c1, c2, c3, c4, c5⟩ := k9.n4.cells
                        obtain ⟨wa, hwa⟩ : ∃ wa, wr.alloc (.cells #[.string N, .string A] 106) = wa := ⟨_, rfl⟩
                        have la : Below wr.heap.size wr wa := by rw [← hwa]; exact (Below.refl _ _).alloc (Nat.le_refl _) _
                        have na : ParAt wa wr.heap.size N A := by rw [← hwa]; exact par_new wr N A
                        have Ka := Lib.hid (k9.step la)
                        have Oa := Lib.hid (own_below KX.out.2 la)
                        have Na : Hid (wa.cell? ⟨wr.heap.size, 0, none⟩ = some (.string (textQ (wordC (s.data.toList.drop j1)))) ∧ wa.cell? ⟨wr.heap.size, 1, none⟩ = some (.string (textQ acc))) := Lib.hid (by
                          rw [HN.out, hA]
                          exact ⟨na.cells.1, na.cells.2.1⟩)
                        have hza : w.heap.size + 1 + 1 + 1 ≤ wa.heap.size := Ka.out.n5.lt
                        have hsk := fun W => r12skip_any s (j) _ W rfl hjx (by omega)
                        have Hnp : Hid (∀ p ∈ l ++ [(wordC (s.data.toList.drop j1), acc)], p.1.length ≤ 1000000 ∧ p.2.length ≤ 1000000) := Lib.hid fun p hp => by
                          rcases List.mem_append.1 hp with h | h
                          · exact HLP.out p h
                          · rw [List.mem_singleton.1 h]
                            exact ⟨HNL.out, by have := Hkb.out; show acc.length ≤ _; omega⟩
                        clear hA la na k9
                        go_wp2_with (first | (go_at_call 93; refine (htn _).mono ?_; rintro e w8 ⟨rfl, h9⟩; obtain rfl := h9.symm) | (at_builtin; refine append_parC rfl _ _ rfl (w.heap.size + 1 + 1 + 1) (.slice ao m cap) l (wordC (s.data.toList.drop j1), acc) rfl Oa.out hza (by rw [Hm.out]; omega) wr.heap.size 1 rfl Na.out.1 Na.out.2 ?_))
                        intro v' w10 hown10 hgrow
                        have b10 : Below (w.heap.size + 1 + 1 + 1) wa w10 := (Below.refl _ _).grown hgrow hza (fun q hq => (Oa.out.lt q hq).1)
                        obtain ⟨ao', cap', rfl⟩ := own_slice hown10
                        have e9 : (l ++ [(wordC (s.data.toList.drop j1), acc)]).length = m + 1 := by rw [List.length_append, Hm.out]; rfl
                        rw [e9] at hown10
                        have k10 := Ka.out.up b10
                        obtain ⟨c0, c1, c2, c3, c4, c5⟩ := k10.n4.cells
                        obtain ⟨wc, hwc⟩ : ∃ wc, w10.setCell ⟨w.heap.size + 1, 2, none⟩ (.slice ao' (m + 1) cap') = wc := ⟨_, rfl⟩
                        have kc : RdK w M S ao' (m + 1) cap' wc := by rw [← hwc]; exact k10.pars _ _ _
                        have oc : ParsOwn wc (w.heap.size + 1 + 1 + 1) (.slice ao' (m + 1) cap') (l ++ [(wordC (s.data.toList.drop j1), acc)]) := by
                          rw [← hwc]
                          exact ownsRow_setCell_below hown10 (a := ⟨w.heap.size + 1, 2, none⟩) (by show w.heap.size + 1 < w.heap.size + 1 + 1 + 1; omega) _
                        have KC := Lib.hid (And.intro kc oc)
                        have E9 := Lib.hid e9
                        rw [e9]
                        clear hown10 hgrow b10 k10 kc oc Ka Oa Na e9 hcv htn
                        go_wp2_with fail
                        refine (hsk _).mono ?_
                        rintro e w11 ⟨⟨j6, rfl, hj6, hj6s, hd6⟩, h9⟩
                        obtain rfl := h9.symm
                        clear h9 hsk
                        have HST : Hid ((s.data.toList.drop j6).length < n ∧ moreQ n (l ++ [(wordC (s.data.toList.drop j1), acc)]) (s.data.toList.drop j6) = F) := Lib.hid ⟨by
                          rw [List.length_drop, hl]
                          have := Hn.out
                          rw [List.length_drop, hl] at this
                          omega, by rw [hd6.out]; exact Hmo.out⟩
                        have HK : Hid (RdK w M S ao' (l ++ [(wordC (s.data.toList.drop j1), acc)]).length cap' wc ∧ ParsOwn wc (w.heap.size + 1 + 1 + 1) (.slice ao' (l ++ [(wordC (s.data.toList.drop j1), acc)]).length cap') (l ++ [(wordC (s.data.toList.drop j1), acc)])) := Lib.hid (by
                          rw [E9.out]
                          exact KC.out)
                        have hlj : (l ++ [(wordC (s.data.toList.drop j1), acc)]).length ≤ j6 := by rw [E9.out]; omega
                        clear hd6 KC c0 c1 c2 c3 c4 c5
                        go_wp2
                        go_roundw
                        case rel => exact ⟨j6, _, ao', cap', n, rfl, hj6s, HK, HST, hlj, Hnp⟩
                        case measure => simp [intOf]; omega
                      · skip
                        have k9 := KX.out.1
                        obtain ⟨c0, c1, c2, c3, c4, c5⟩ := k9.n4.cells
                        obtain ⟨wa, hwa⟩ : ∃ wa, wr.alloc (.cells #[.string N, .string A] 106) = wa := ⟨_, rfl⟩
                        have la : Below wr.heap.size wr wa := by rw [← hwa]; exact (Below.refl _ _).alloc (Nat.le_refl _) _
                        have na : ParAt wa wr.heap.size N A := by rw [← hwa]; exact par_new wr N A
                        have Ka := Lib.hid (k9.step la)
                        have Oa := Lib.hid (own_below KX.out.2 la)
                        have Na : Hid (wa.cell? ⟨wr.heap.size, 0, none⟩ = some (.string (textQ (wordC (s.data.toList.drop j1)))) ∧ wa.cell? ⟨wr.heap.size, 1, none⟩ = some (.string (textQ acc))) := Lib.hid (by
                          rw [HN.out, hA]
                          exact ⟨na.cells.1, na.cells.2.1⟩)
                        have hza : w.heap.size + 1 + 1 + 1 ≤ wa.heap.size := Ka.out.n5.lt
                        have hsk := fun W => r12skip_any s (j) _ W rfl hjx (by omega)
                        have Hnp : Hid (∀ p ∈ l ++ [(wordC (s.data.toList.drop j1), acc)], p.1.length ≤ 1000000 ∧ p.2.length ≤ 1000000) := Lib.hid fun p hp => by
                          rcases List.mem_append.1 hp with h | h
                          · exact HLP.out p h
                          · rw [List.mem_singleton.1 h]
                            exact ⟨HNL.out, by have := Hkb.out; show acc.length ≤ _; omega⟩
                        clear hA la na k9
                        go_wp2_with (first | (go_at_call 92; refine (hcl _).mono ?_; rintro e w8 ⟨rfl, h9⟩; obtain rfl := h9.symm) | (go_at_call 93; refine (htn _).mono ?_; rintro e w8 ⟨rfl, h9⟩; obtain rfl := h9.symm) | (at_builtin; refine append_parC rfl _ _ rfl (w.heap.size + 1 + 1 + 1) (.slice ao m cap) l (wordC (s.data.toList.drop j1), acc) rfl Oa.out hza (by rw [Hm.out]; omega) wr.heap.size 1 rfl Na.out.1 Na.out.2 ?_))
                        intro v' w10 hown10 hgrow
                        have b10 : Below (w.heap.size + 1 + 1 + 1) wa w10 := (Below.refl _ _).grown hgrow hza (fun q hq => (Oa.out.lt q hq).1)
                        obtain ⟨ao', cap', rfl⟩ := own_slice hown10
                        have e9 : (l ++ [(wordC (s.data.toList.drop j1), acc)]).length = m + 1 := by rw [List.length_append, Hm.out]; rfl
                        rw [e9] at hown10
                        have k10 := Ka.out.up b10
                        obtain ⟨c0, c1, c2, c3, c4, c5⟩ := k10.n4.cells
                        obtain ⟨wc, hwc⟩ : ∃ wc, w10.setCell ⟨w.heap.size + 1, 2, none⟩ (.slice ao' (m + 1) cap') = wc := ⟨_, rfl⟩
                        have kc : RdK w M S ao' (m + 1) cap' wc := by rw [← hwc]; exact k10.pars _ _ _
                        have oc : ParsOwn wc (w.heap.size + 1 + 1 + 1) (.slice ao' (m + 1) cap') (l ++ [(wordC (s.data.toList.drop j1), acc)]) := by
                          rw [← hwc]
                          exact ownsRow_setCell_below hown10 (a := ⟨w.heap.size + 1, 2, none⟩) (by show w.heap.size + 1 < w.heap.size + 1 + 1 + 1; omega) _
                        have KC := Lib.hid (And.intro kc oc)
                        have E9 := Lib.hid e9
                        rw [e9]
                        clear hown10 hgrow b10 k10 kc oc Ka Oa Na e9 hcv htn hcl
                        go_wp2_with fail
                        refine (hsk _).mono ?_
                        rintro e w11 ⟨⟨j6, rfl, hj6, hj6s, hd6⟩, h9⟩
                        obtain rfl := h9.symm
                        clear h9 hsk
                        have HST : Hid ((s.data.toList.drop j6).length < n ∧ moreQ n (l ++ [(wordC (s.data.toList.drop j1), acc)]) (s.data.toList.drop j6) = F) := Lib.hid ⟨by
                          rw [List.length_drop, hl]
                          have := Hn.out
                          rw [List.length_drop, hl] at this
                          omega, by rw [hd6.out]; exact Hmo.out⟩
                        have HK : Hid (RdK w M S ao' (l ++ [(wordC (s.data.toList.drop j1), acc)]).length cap' wc ∧ ParsOwn wc (w.heap.size + 1 + 1 + 1) (.slice ao' (l ++ [(wordC (s.data.toList.drop j1), acc)]).length cap') (l ++ [(wordC (s.data.toList.drop j1), acc)])) := Lib.hid (by
                          rw [E9.out]
                          exact KC.out)
                        have hlj : (l ++ [(wordC (s.data.toList.drop j1), acc)]).length ≤ j6 := by rw [E9.out]; omega
                        clear hd6 KC c0 c1 c2 c3 c4 c5
                        go_wp2
                        go_roundw
                        case rel => exact ⟨j6, _, ao', cap', n, rfl, hj6s, HK, HST, hlj, Hnp⟩
                        case measure => simp [intOf]; omega
              · go_wp2
                go_loopw [7, 10] (fun iv vv wr => ∃ (j : Nat) (acc : TextA), j3 ≤ j ∧ j ≤ s.size ∧ iv = .int .i64 j ∧ BytesC wr BB vv acc ∧ acc.length ≤ j ∧ Hid (acc ++ (s.data.toList.drop j).takeWhile tokC = (s.data.toList.drop j3).takeWhile tokC ∧ (s.data.toList.drop j).dropWhile tokC = (s.data.toList.drop j3).dropWhile tokC) ∧ Below BB w5 wr) (fun iv _ _ => s.size - (intOf iv).toNat)
                case atStart => exact ⟨j3, [], Nat.le_refl _, by omega, congrArg (Value.int .i64) (by have := HJ3.out; omega), bytes_nil _ _, by simp, Lib.hid ⟨List.nil_append _, rfl⟩, Below.refl _ _⟩
                case round =>
                  obtain ⟨j, acc, hj4, hj, rfl, hown, hal, hh, hbx⟩ := hrel
                  obtain ⟨aob, capb, rfl⟩ := bytes_slice hown
                  obtain ⟨kb, hkb⟩ : ∃ k, acc.length = k := ⟨_, rfl⟩
                  have Hob : Hid (BytesC wr BB (.slice aob kb capb) acc) := Lib.hid (by rw [← hkb]; exact hown)
                  have Hkb := Lib.hid hkb
                  rw [hkb] at hal ⊢
                  clear hown hkb
                  have hend : Hid ((s.data.toList.drop j).takeWhile tokC = [] → acc = (s.data.toList.drop j3).takeWhile tokC) := Lib.hid fun h => by
                    have := hh.out.1
                    rw [h, List.append_nil] at this
                    exact this
                  by_cases hgo : ∃ h : j < s.size, tokC s[j] = true
                  · obtain ⟨hlt, htk⟩ := hgo
                    obtain ⟨hh1, hh2⟩ := hh.out
                    rw [cons_atC s j hlt, List.takeWhile_cons, htk, if_pos rfl] at hh1
                    rw [cons_atC s j hlt, List.dropWhile_cons, htk, if_pos rfl] at hh2
                    have hle := fun W => r12letter_any s[j] W
                    simp only [htk] at hle
                    obtain ⟨c, hc⟩ : ∃ c, s[j] = c := ⟨_, rfl⟩
                    rw [hc] at hh1
                    have hcn : (s[j].toNat : Int) = c.toNat := by rw [hc]
                    have HH : Hid ((acc ++ [c]) ++ (s.data.toList.drop (j + 1)).takeWhile tokC = (s.data.toList.drop j3).takeWhile tokC ∧ (s.data.toList.drop (j + 1)).dropWhile tokC = (s.data.toList.drop j3).dropWhile tokC) := Lib.hid ⟨by rw [← hh1]; simp, hh2⟩
                    clear hh hh1 hh2 hc htk hend
                    obtain ⟨wa, hwa⟩ : ∃ wa, wr.alloc (.cells #[.int .u8 (s[j].toNat : Int)] 5) = wa := ⟨_, rfl⟩
                    have la : Below wr.heap.size wr wa := by rw [← hwa]; exact (Below.refl _ _).alloc (Nat.le_refl _) _
                    have Oa := Lib.hid (bytes_below Hob.out la)
                    have Ca : Hid (wa.cell? ⟨wr.heap.size, 0, none⟩ = some (.int .u8 (c.toNat : Int))) := Lib.hid (by
                      rw [← hwa, ← hcn]
                      exact Lib.cell_of_heap (heap_alloc_new wr _) 0)
                    have Ba := Lib.hid (hbx.trans (la.mono (Nat.le_trans hBB3 hbx.size)))
                    have e9 : (acc ++ [c]).length = kb + 1 := by rw [List.length_append, Hkb.out]; rfl
                    have E9 := Lib.hid e9
                    clear la Hob hbx e9 hcn
                    go_wp2_with (first | (go_at_call 92; refine (hle _).mono ?_; rintro e w8 ⟨rfl, h9⟩; obtain rfl := h9.symm) | (at_builtin; refine append_byteC rfl _ _ rfl BB (.slice aob kb capb) acc c rfl Oa.out (Nat.le_trans (by omega) Ba.out.size) (by rw [Hkb.out]; omega) wr.heap.size 1 rfl Ca.out ?_))
                    intro v' w9 hown9 hgrow
                    have b9 : Below BB w5 w9 := Ba.out.grown hgrow (Nat.le_trans (by omega) Ba.out.size) (fun q hq => (Oa.out.lt q hq).1)
                    obtain ⟨ao9, cap9, rfl⟩ := bytes_slice hown9
                    have O9 := Lib.hid hown9
                    rw [E9.out]
                    have o9 : BytesC w9 BB (.slice ao9 (kb + 1) cap9) (acc ++ [c]) := by rw [← E9.out]; exact O9.out
                    have O10 := Lib.hid o9
                    have hl9 : (acc ++ [c]).length ≤ j + 1 := by rw [E9.out]; omega
                    clear hown9 hgrow o9 Oa Ba Ca
                    go_wp2
                    go_roundw
                    case rel => exact ⟨j + 1, _, by omega, by omega, by go_num, O10.out, hl9, HH, b9⟩
                    case measure => simp [intOf]; omega
                  · have hstop : (s.data.toList.drop j).takeWhile tokC = [] ∧ (s.data.toList.drop j).dropWhile tokC = s.data.toList.drop j := by
                      by_cases hlt : j < s.size
                      · have hf : tokC s[j] = false := by
                          cases h : tokC s[j] with
                          | false => rfl
                          | true => exact absurd ⟨hlt, h⟩ hgo
                        rw [cons_atC s j hlt, List.takeWhile_cons, List.dropWhile_cons, hf]
                        exact ⟨rfl, rfl⟩
                      · rw [List.drop_of_length_le (by rw [hl]; omega)]
                        exact ⟨rfl, rfl⟩
                    have hacc := hend.out hstop.1
                    have hdr := hh.out.2
                    rw [hstop.2] at hdr
                    have hval : valueC (s.data.toList.drop j3) = if tokT acc = true then some (acc, s.data.toList.drop j) else none := by
                      unfold valueC
                      rw [Hcn.out, hacc, hdr]
                    have htn := fun W => r12token_any (textQ acc) W (by show acc.length ≤ _; rw [Hkb.out]; omega)
                    simp only [show (textQ acc).data.toList = acc from rfl] at htn
                    obtain ⟨A, hA⟩ : ∃ A, textQ acc = A := ⟨_, rfl⟩
                    simp only [hA] at htn
                    have hcv : (convert 67 9 (.slice aob kb capb)).run Tryz.prog wr = .ok (.string A) wr := by
                      rw [← hA]
                      exact conv_own4 Hob.out
                    have hcase : (¬ j < s.size) ∨ ∃ h : j < s.size, ∀ W, Calls Tryz.prog 92 #[.int .u8 (s[j].toNat : Int)] W fun e w' => e = .returned (.bool false) ∧ w' = W := by
                      by_cases hlt : j < s.size
                      · refine .inr ⟨hlt, fun W => ?_⟩
                        have := r12letter_any s[j] W
                        have hf : tokC s[j] = false := by
                          cases h : tokC s[j] with
                          | false => rfl
                          | true => exact absurd ⟨hlt, h⟩ hgo
                        rw [hf] at this
                        exact this
                      · exact .inl hlt
                    clear hh hgo hend hstop hacc hdr
                    cases htt : tokT acc with
                    | false =>
                      rw [htt, if_neg (by simp)] at hval
                      simp only [htt] at htn
                      have HFN := Lib.hid (HFF.out (HVN.out hval))
                      have KX := Lib.hid (K5.out.1.up2 hbx (by omega))
                      clear hval hbx K5 htt
                      rcases hcase with hcl | ⟨hlt, hcl⟩
                      · clear hA
                        obtain ⟨x0, x1, x2, x3, x4, x5⟩ := KX.out.n2.cells
                        obtain ⟨y0, y1, y2, _⟩ := KX.out.n5.cells
                        obtain ⟨k0, k1, k2, bb⟩ := KX.out.nil
                        have HE := Lib.hid (HNone.out HFN.out _ bb)
                        clear bb
                        go_wp2_with (go_at_call 93; refine (htn _).mono ?_; rintro e w8 ⟨rfl, h9⟩; obtain rfl := h9.symm)
                        refine bodyPost_ret (v := .tuple #[.agg #[.string ⟨#[]⟩, .string ⟨#[]⟩, .slice none 0 0], .int .i64 2]) (by simp [results, Tryz.f61, go_sem, k0, k1, k2]) rfl HE.out
                      · clear hA
                        obtain ⟨x0, x1, x2, x3, x4, x5⟩ := KX.out.n2.cells
                        obtain ⟨y0, y1, y2, _⟩ := KX.out.n5.cells
                        obtain ⟨k0, k1, k2, bb⟩ := KX.out.nil
                        have HE := Lib.hid (HNone.out HFN.out _ bb)
                        clear bb
                        go_wp2_with (first | (go_at_call 92; refine (hcl _).mono ?_; rintro e w8 ⟨rfl, h9⟩; obtain rfl := h9.symm) | (go_at_call 93; refine (htn _).mono ?_; rintro e w8 ⟨rfl, h9⟩; obtain rfl := h9.symm))
                        refine bodyPost_ret (v := .tuple #[.agg #[.string ⟨#[]⟩, .string ⟨#[]⟩, .slice none 0 0], .int .i64 2]) (by simp [results, Tryz.f61, go_sem, k0, k1, k2]) rfl HE.out
                    | true =>
                      rw [htt, if_pos rfl] at hval
                      simp only [htt] at htn
                      have Hmo : Hid (moreQ n (l ++ [(wordC (s.data.toList.drop j1), acc)]) ((s.data.toList.drop j).dropWhile gapC) = F) := Lib.hid (HVS.out _ _ hval)
                      have hjx : j ≤ s.size := hj
                      have KX := Lib.hid (And.intro (K5.out.1.up2 hbx (by omega)) (own_up K5.out.2 hbx (by omega)))
                      clear hval hbx K5 htt
                      rcases hcase with hcl | ⟨hlt, hcl⟩
                      · skip
                        have k9 := KX.out.1
                        obtain ⟨c0, c1, c2, c3, c4, c5⟩ := k9.n4.cells
                        obtain ⟨wa, hwa⟩ : ∃ wa, wr.alloc (.cells #[.string N, .string A] 106) = wa := ⟨_, rfl⟩
                        have la : Below wr.heap.size wr wa := by rw [← hwa]; exact (Below.refl _ _).alloc (Nat.le_refl _) _
                        have na : ParAt wa wr.heap.size N A := by rw [← hwa]; exact par_new wr N A
                        have Ka := Lib.hid (k9.step la)
                        have Oa := Lib.hid (own_below KX.out.2 la)
                        have Na : Hid (wa.cell? ⟨wr.heap.size, 0, none⟩ = some (.string (textQ (wordC (s.data.toList.drop j1)))) ∧ wa.cell? ⟨wr.heap.size, 1, none⟩ = some (.string (textQ acc))) := Lib.hid (by
                          rw [HN.out, hA]
                          exact ⟨na.cells.1, na.cells.2.1⟩)
                        have hza : w.heap.size + 1 + 1 + 1 ≤ wa.heap.size := Ka.out.n5.lt
                        have hsk := fun W => r12skip_any s (j) _ W rfl hjx (by omega)
                        have Hnp : Hid (∀ p ∈ l ++ [(wordC (s.data.toList.drop j1), acc)], p.1.length ≤ 1000000 ∧ p.2.length ≤ 1000000) := Lib.hid fun p hp => by
                          rcases List.mem_append.1 hp with h | h
                          · exact HLP.out p h
                          · rw [List.mem_singleton.1 h]
                            exact ⟨HNL.out, by have := Hkb.out; show acc.length ≤ _; omega⟩
                        clear hA la na k9
                        go_wp2_with (first | (go_at_call 93; refine (htn _).mono ?_; rintro e w8 ⟨rfl, h9⟩; obtain rfl := h9.symm) | (at_builtin; refine append_parC rfl _ _ rfl (w.heap.size + 1 + 1 + 1) (.slice ao m cap) l (wordC (s.data.toList.drop j1), acc) rfl Oa.out hza (by rw [Hm.out]; omega) wr.heap.size 1 rfl Na.out.1 Na.out.2 ?_))
                        intro v' w10 hown10 hgrow
                        have b10 : Below (w.heap.size + 1 + 1 + 1) wa w10 := (Below.refl _ _).grown hgrow hza (fun q hq => (Oa.out.lt q hq).1)
                        obtain ⟨ao', cap', rfl⟩ := own_slice hown10
                        have e9 : (l ++ [(wordC (s.data.toList.drop j1), acc)]).length = m + 1 := by rw [List.length_append, Hm.out]; rfl
                        rw [e9] at hown10
                        have k10 := Ka.out.up b10
                        obtain ⟨c0, c1, c2, c3, c4, c5⟩ := k10.n4.cells
                        obtain ⟨wc, hwc⟩ : ∃ wc, w10.setCell ⟨w.heap.size + 1, 2, none⟩ (.slice ao' (m + 1) cap') = wc := ⟨_, rfl⟩
                        have kc : RdK w M S ao' (m + 1) cap' wc := by rw [← hwc]; exact k10.pars _ _ _
                        have oc : ParsOwn wc (w.heap.size + 1 + 1 + 1) (.slice ao' (m + 1) cap') (l ++ [(wordC (s.data.toList.drop j1), acc)]) := by
                          rw [← hwc]
                          exact ownsRow_setCell_below hown10 (a := ⟨w.heap.size + 1, 2, none⟩) (by show w.heap.size + 1 < w.heap.size + 1 + 1 + 1; omega) _
                        have KC := Lib.hid (And.intro kc oc)
                        have E9 := Lib.hid e9
                        rw [e9]
                        clear hown10 hgrow b10 k10 kc oc Ka Oa Na e9 hcv htn
                        go_wp2_with fail
                        refine (hsk _).mono ?_
                        rintro e w11 ⟨⟨j6, rfl, hj6, hj6s, hd6⟩, h9⟩
                        obtain rfl := h9.symm
                        clear h9 hsk
                        have HST : Hid ((s.data.toList.drop j6).length < n ∧ moreQ n (l ++ [(wordC (s.data.toList.drop j1), acc)]) (s.data.toList.drop j6) = F) := Lib.hid ⟨by
                          rw [List.length_drop, hl]
                          have := Hn.out
                          rw [List.length_drop, hl] at this
                          omega, by rw [hd6.out]; exact Hmo.out⟩
                        have HK : Hid (RdK w M S ao' (l ++ [(wordC (s.data.toList.drop j1), acc)]).length cap' wc ∧ ParsOwn wc (w.heap.size + 1 + 1 + 1) (.slice ao' (l ++ [(wordC (s.data.toList.drop j1), acc)]).length cap') (l ++ [(wordC (s.data.toList.drop j1), acc)])) := Lib.hid (by
                          rw [E9.out]
                          exact KC.out)
                        have hlj : (l ++ [(wordC (s.data.toList.drop j1), acc)]).length ≤ j6 := by rw [E9.out]; omega
                        clear hd6 KC c0 c1 c2 c3 c4 c5
                        go_wp2
                        go_roundw
                        case rel => exact ⟨j6, _, ao', cap', n, rfl, hj6s, HK, HST, hlj, Hnp⟩
                        case measure => simp [intOf]; omega
                      · skip
                        have k9 := KX.out.1
                        obtain ⟨c0, c1, c2, c3, c4, c5⟩ := k9.n4.cells
                        obtain ⟨wa, hwa⟩ : ∃ wa, wr.alloc (.cells #[.string N, .string A] 106) = wa := ⟨_, rfl⟩
                        have la : Below wr.heap.size wr wa := by rw [← hwa]; exact (Below.refl _ _).alloc (Nat.le_refl _) _
                        have na : ParAt wa wr.heap.size N A := by rw [← hwa]; exact par_new wr N A
                        have Ka := Lib.hid (k9.step la)
                        have Oa := Lib.hid (own_below KX.out.2 la)
                        have Na : Hid (wa.cell? ⟨wr.heap.size, 0, none⟩ = some (.string (textQ (wordC (s.data.toList.drop j1)))) ∧ wa.cell? ⟨wr.heap.size, 1, none⟩ = some (.string (textQ acc))) := Lib.hid (by
                          rw [HN.out, hA]
                          exact ⟨na.cells.1, na.cells.2.1⟩)
                        have hza : w.heap.size + 1 + 1 + 1 ≤ wa.heap.size := Ka.out.n5.lt
                        have hsk := fun W => r12skip_any s (j) _ W rfl hjx (by omega)
                        have Hnp : Hid (∀ p ∈ l ++ [(wordC (s.data.toList.drop j1), acc)], p.1.length ≤ 1000000 ∧ p.2.length ≤ 1000000) := Lib.hid fun p hp => by
                          rcases List.mem_append.1 hp with h | h
                          · exact HLP.out p h
                          · rw [List.mem_singleton.1 h]
                            exact ⟨HNL.out, by have := Hkb.out; show acc.length ≤ _; omega⟩
                        clear hA la na k9
                        go_wp2_with (first | (go_at_call 92; refine (hcl _).mono ?_; rintro e w8 ⟨rfl, h9⟩; obtain rfl := h9.symm) | (go_at_call 93; refine (htn _).mono ?_; rintro e w8 ⟨rfl, h9⟩; obtain rfl := h9.symm) | (at_builtin; refine append_parC rfl _ _ rfl (w.heap.size + 1 + 1 + 1) (.slice ao m cap) l (wordC (s.data.toList.drop j1), acc) rfl Oa.out hza (by rw [Hm.out]; omega) wr.heap.size 1 rfl Na.out.1 Na.out.2 ?_))
                        intro v' w10 hown10 hgrow
                        have b10 : Below (w.heap.size + 1 + 1 + 1) wa w10 := (Below.refl _ _).grown hgrow hza (fun q hq => (Oa.out.lt q hq).1)
                        obtain ⟨ao', cap', rfl⟩ := own_slice hown10
                        have e9 : (l ++ [(wordC (s.data.toList.drop j1), acc)]).length = m + 1 := by rw [List.length_append, Hm.out]; rfl
                        rw [e9] at hown10
                        have k10 := Ka.out.up b10
                        obtain ⟨c0, c1, c2, c3, c4, c5⟩ := k10.n4.cells
                        obtain ⟨wc, hwc⟩ : ∃ wc, w10.setCell ⟨w.heap.size + 1, 2, none⟩ (.slice ao' (m + 1) cap') = wc := ⟨_, rfl⟩
                        have kc : RdK w M S ao' (m + 1) cap' wc := by rw [← hwc]; exact k10.pars _ _ _
                        have oc : ParsOwn wc (w.heap.size + 1 + 1 + 1) (.slice ao' (m + 1) cap') (l ++ [(wordC (s.data.toList.drop j1), acc)]) := by
                          rw [← hwc]
                          exact ownsRow_setCell_below hown10 (a := ⟨w.heap.size + 1, 2, none⟩) (by show w.heap.size + 1 < w.heap.size + 1 + 1 + 1; omega) _
                        have KC := Lib.hid (And.intro kc oc)
                        have E9 := Lib.hid e9
                        rw [e9]
                        clear hown10 hgrow b10 k10 kc oc Ka Oa Na e9 hcv htn hcl
                        go_wp2_with fail
                        refine (hsk _).mono ?_
                        rintro e w11 ⟨⟨j6, rfl, hj6, hj6s, hd6⟩, h9⟩
                        obtain rfl := h9.symm
                        clear h9 hsk
                        have HST : Hid ((s.data.toList.drop j6).length < n ∧ moreQ n (l ++ [(wordC (s.data.toList.drop j1), acc)]) (s.data.toList.drop j6) = F) := Lib.hid ⟨by
                          rw [List.length_drop, hl]
                          have := Hn.out
                          rw [List.length_drop, hl] at this
                          omega, by rw [hd6.out]; exact Hmo.out⟩
                        have HK : Hid (RdK w M S ao' (l ++ [(wordC (s.data.toList.drop j1), acc)]).length cap' wc ∧ ParsOwn wc (w.heap.size + 1 + 1 + 1) (.slice ao' (l ++ [(wordC (s.data.toList.drop j1), acc)]).length cap') (l ++ [(wordC (s.data.toList.drop j1), acc)])) := Lib.hid (by
                          rw [E9.out]
                          exact KC.out)
                        have hlj : (l ++ [(wordC (s.data.toList.drop j1), acc)]).length ≤ j6 := by rw [E9.out]; omega
                        clear hd6 KC c0 c1 c2 c3 c4 c5
                        go_wp2
                        go_roundw
                        case rel => exact ⟨j6, _, ao', cap', n, rfl, hj6s, HK, HST, hlj, Hnp⟩
                        case measure => simp [intOf]; omega
            · obtain ⟨C, hC⟩ : ∃ C, hearA false [] (s.data.toList.drop (j3 + 1)) = C := ⟨_, rfl⟩
              have hval : valueC (s.data.toList.drop j3) = C := by
                unfold valueC
                rw [hcut]
                exact hC
              rw [hval] at HVN
              rw [hval] at HVS
              have HC := Lib.hid hC
              have f6 : ∃ h : j2 + 1 < s.size, ((s[j2 + 1].toNat : Int) == 34) = true := by
                have e := HJ3.out
                subst e
                exact ⟨hlt3, hbyte⟩
              obtain ⟨hlt4, f6⟩ := f6
              have f5 : (j2 : Int) + 1 < (s.size : Int) := by omega
              have hw3 : IntKind.i64.wrap ((j2 : Int) + 1 + 1) = (j2 : Int) + 1 + 1 := by rw [IntWalk.i64_in _ (by omega)]
              clear hcut hbyte hval hC
              go_wp2
              go_loopw [7, 10] (fun iv vv wr => ∃ (j : Nat) (acc : TextA), j3 + 1 ≤ j ∧ j ≤ s.size ∧ iv = .int .i64 j ∧ BytesC wr BB vv acc ∧ acc.length ≤ j ∧ Hid (hearA false acc (s.data.toList.drop j) = C) ∧ Below BB w5 wr) (fun iv _ _ => s.size - (intOf iv).toNat)
              case atStart => exact ⟨j3 + 1, [], Nat.le_refl _, by omega, congrArg (Value.int .i64) (by have := HJ3.out; omega), bytes_nil _ _, by simp, Lib.hid HC.out, Below.refl _ _⟩
              case round =>
                obtain ⟨j, acc, hj4, hj, rfl, hown, hal, hh, hbx⟩ := hrel
                obtain ⟨aob, capb, rfl⟩ := bytes_slice hown
                obtain ⟨kb, hkb⟩ : ∃ k, acc.length = k := ⟨_, rfl⟩
                have Hob : Hid (BytesC wr BB (.slice aob kb capb) acc) := Lib.hid (by rw [← hkb]; exact hown)
                have Hkb := Lib.hid hkb
                rw [hkb] at hal ⊢
                clear hown hkb
                by_cases hlt : j < s.size
                · have hh2 := hh.out
                  rw [cons_atC s j hlt] at hh2
                  obtain ⟨c, hc⟩ : ∃ c, s[j] = c := ⟨_, rfl⟩
                  rw [hc] at hh2
                  have hcn : (s[j].toNat : Int) = c.toNat := by rw [hc]
                  by_cases h34 : c = 34
                  · subst h34
                    have hC2 : C = some (acc, s.data.toList.drop (j + 1)) := by
                      rw [← hh2, hearA, if_neg (by decide), if_pos rfl]
                    have Hmo : Hid (moreQ n (l ++ [(wordC (s.data.toList.drop j1), acc)]) ((s.data.toList.drop (j + 1)).dropWhile gapC) = F) := Lib.hid (HVS.out _ _ hC2)
                    have f1 : ((s[j].toNat : Int) != 34) = false := bne_t (by rw [hcn]; rfl)
                    have hjx : j + 1 ≤ s.size := by omega
                    have KX := Lib.hid (And.intro (K5.out.1.up2 hbx (by omega)) (own_up K5.out.2 hbx (by omega)))
                    clear hh hh2 hc hcn hC2 hbx K5
                    obtain ⟨A, hA⟩ : ∃ A, textQ acc = A := ⟨_, rfl⟩
                    have hcv : (convert 67 9 (.slice aob kb capb)).run Tryz.prog wr = .ok (.string A) wr := by
                      rw [← hA]
                      exact conv_own4 Hob.out
                    have k9 := KX.out.1
                    obtain ⟨c0, c1, c2, c3, c4, c5⟩ := k9.n4.cells
                    obtain ⟨wa, hwa⟩ : ∃ wa, wr.alloc (.cells #[.string N, .string A] 106) = wa := ⟨_, rfl⟩
                    have la : Below wr.heap.size wr wa := by rw [← hwa]; exact (Below.refl _ _).alloc (Nat.le_refl _) _
                    have na : ParAt wa wr.heap.size N A := by rw [← hwa]; exact par_new wr N A
                    have Ka := Lib.hid (k9.step la)
                    have Oa := Lib.hid (own_below KX.out.2 la)
                    have Na : Hid (wa.cell? ⟨wr.heap.size, 0, none⟩ = some (.string (textQ (wordC (s.data.toList.drop j1)))) ∧ wa.cell? ⟨wr.heap.size, 1, none⟩ = some (.string (textQ acc))) := Lib.hid (by
                      rw [HN.out, hA]
                      exact ⟨na.cells.1, na.cells.2.1⟩)
                    have hza : w.heap.size + 1 + 1 + 1 ≤ wa.heap.size := Ka.out.n5.lt
                    have hsk := fun W => r12skip_any s (j + 1) _ W rfl hjx (by omega)
                    have Hnp : Hid (∀ p ∈ l ++ [(wordC (s.data.toList.drop j1), acc)], p.1.length ≤ 1000000 ∧ p.2.length ≤ 1000000) := Lib.hid fun p hp => by
                      rcases List.mem_append.1 hp with h | h
                      · exact HLP.out p h
                      · rw [List.mem_singleton.1 h]
                        exact ⟨HNL.out, by have := Hkb.out; show acc.length ≤ _; omega⟩
                    clear hA la na k9
                    go_wp2_with (at_builtin; refine append_parC rfl _ _ rfl (w.heap.size + 1 + 1 + 1) (.slice ao m cap) l (wordC (s.data.toList.drop j1), acc) rfl Oa.out hza (by rw [Hm.out]; omega) wr.heap.size 1 rfl Na.out.1 Na.out.2 ?_)
                    intro v' w10 hown10 hgrow
                    have b10 : Below (w.heap.size + 1 + 1 + 1) wa w10 := (Below.refl _ _).grown hgrow hza (fun q hq => (Oa.out.lt q hq).1)
                    obtain ⟨ao', cap', rfl⟩ := own_slice hown10
                    have e9 : (l ++ [(wordC (s.data.toList.drop j1), acc)]).length = m + 1 := by rw [List.length_append, Hm.out]; rfl
                    rw [e9] at hown10
                    have k10 := Ka.out.up b10
                    obtain ⟨c0, c1, c2, c3, c4, c5⟩ := k10.n4.cells
                    obtain ⟨wc, hwc⟩ : ∃ wc, w10.setCell ⟨w.heap.size + 1, 2, none⟩ (.slice ao' (m + 1) cap') = wc := ⟨_, rfl⟩
                    have kc : RdK w M S ao' (m + 1) cap' wc := by rw [← hwc]; exact k10.pars _ _ _
                    have oc : ParsOwn wc (w.heap.size + 1 + 1 + 1) (.slice ao' (m + 1) cap') (l ++ [(wordC (s.data.toList.drop j1), acc)]) := by
                      rw [← hwc]
                      exact ownsRow_setCell_below hown10 (a := ⟨w.heap.size + 1, 2, none⟩) (by show w.heap.size + 1 < w.heap.size + 1 + 1 + 1; omega) _
                    have KC := Lib.hid (And.intro kc oc)
                    have E9 := Lib.hid e9
                    rw [e9]
                    clear hown10 hgrow b10 k10 kc oc Ka Oa Na e9 hcv
                    go_wp2_with fail
                    refine (hsk _).mono ?_
                    rintro e w11 ⟨⟨j6, rfl, hj6, hj6s, hd6⟩, h9⟩
                    obtain rfl := h9.symm
                    clear h9 hsk
                    have HST : Hid ((s.data.toList.drop j6).length < n ∧ moreQ n (l ++ [(wordC (s.data.toList.drop j1), acc)]) (s.data.toList.drop j6) = F) := Lib.hid ⟨by
                      rw [List.length_drop, hl]
                      have := Hn.out
                      rw [List.length_drop, hl] at this
                      omega, by rw [hd6.out]; exact Hmo.out⟩
                    have HK : Hid (RdK w M S ao' (l ++ [(wordC (s.data.toList.drop j1), acc)]).length cap' wc ∧ ParsOwn wc (w.heap.size + 1 + 1 + 1) (.slice ao' (l ++ [(wordC (s.data.toList.drop j1), acc)]).length cap') (l ++ [(wordC (s.data.toList.drop j1), acc)])) := Lib.hid (by
                      rw [E9.out]
                      exact KC.out)
                    have hlj : (l ++ [(wordC (s.data.toList.drop j1), acc)]).length ≤ j6 := by rw [E9.out]; omega
                    clear hd6 KC c0 c1 c2 c3 c4 c5
                    go_wp2
                    go_roundw
                    case rel => exact ⟨j6, _, ao', cap', n, rfl, hj6s, HK, HST, hlj, Hnp⟩
                    case measure => simp [intOf]; omega
                  · have f1 : ((s[j].toNat : Int) != 34) = true := bne_f <| by
                      rw [hcn, beq_eq_false_iff_ne]
                      exact fun e => h34 (UInt8.toNat_inj.1 (by show c.toNat = 34; omega))
                    by_cases h92 : c = 92
                    · have f2 : ((s[j].toNat : Int) == 92) = true := by rw [hcn, h92]; rfl
                      by_cases hj2 : j + 1 < s.size
                      · obtain ⟨d, hd⟩ : ∃ d, s[j + 1] = d := ⟨_, rfl⟩
                        have hdn : (s[j + 1].toNat : Int) = d.toNat := by rw [hd]
                        have HH : Hid (hearA false (acc ++ [d]) (s.data.toList.drop (j + 2)) = C) := Lib.hid (by
                          rw [← hh2, h92, hearA, if_pos rfl, cons_atC s (j + 1) hj2, hearA, hd])
                        have f3 : (j : Int) + 1 < (s.size : Int) := by omega
                        have hw1 : IntKind.i64.wrap ((j : Int) + 1) = (j : Int) + 1 := by rw [IntWalk.i64_in _ (by omega)]
                        have hw2 : IntKind.i64.wrap ((j : Int) + 1 + 1) = (j : Int) + 1 + 1 := by rw [IntWalk.i64_in _ (by omega)]
                        clear hh hh2 hc hcn hd h34 h92
                        obtain ⟨wa, hwa⟩ : ∃ wa, wr.alloc (.cells #[.int .u8 (s[j + 1].toNat : Int)] 5) = wa := ⟨_, rfl⟩
                        have la : Below wr.heap.size wr wa := by rw [← hwa]; exact (Below.refl _ _).alloc (Nat.le_refl _) _
                        have Oa := Lib.hid (bytes_below Hob.out la)
                        have Ca : Hid (wa.cell? ⟨wr.heap.size, 0, none⟩ = some (.int .u8 (d.toNat : Int))) := Lib.hid (by
                          rw [← hwa, ← hdn]
                          exact Lib.cell_of_heap (heap_alloc_new wr _) 0)
                        have Ba := Lib.hid (hbx.trans (la.mono (Nat.le_trans hBB3 hbx.size)))
                        have e9 : (acc ++ [d]).length = kb + 1 := by rw [List.length_append, Hkb.out]; rfl
                        have E9 := Lib.hid e9
                        clear la Hob hbx e9 hdn
                        go_wp2_with (at_builtin; refine append_byteC rfl _ _ rfl BB (.slice aob kb capb) acc d rfl Oa.out (Nat.le_trans (by omega) Ba.out.size) (by rw [Hkb.out]; omega) wr.heap.size 1 rfl Ca.out ?_)
                        intro v' w9 hown9 hgrow
                        have b9 : Below BB w5 w9 := Ba.out.grown hgrow (Nat.le_trans (by omega) Ba.out.size) (fun q hq => (Oa.out.lt q hq).1)
                        obtain ⟨ao9, cap9, rfl⟩ := bytes_slice hown9
                        have O9 := Lib.hid hown9
                        rw [E9.out]
                        have o9 : BytesC w9 BB (.slice ao9 (kb + 1) cap9) (acc ++ [d]) := by rw [← E9.out]; exact O9.out
                        have O10 := Lib.hid o9
                        have hl9 : (acc ++ [d]).length ≤ j + 2 := by rw [E9.out]; omega
                        clear hown9 hgrow o9 Oa Ba Ca
                        go_wp2
                        go_roundw
                        case rel => exact ⟨j + 2, _, by omega, by omega, by go_num, O10.out, hl9, HH, b9⟩
                        case measure => simp [intOf]; omega
                      · have HH : Hid (hearA false (acc ++ [c]) (s.data.toList.drop (j + 1)) = C) := Lib.hid (by
                          rw [← hh2, h92, hearA, if_pos rfl, List.drop_of_length_le (by rw [hl]; omega)]
                          rfl)
                        have f3 : ¬ (j : Int) + 1 < (s.size : Int) := by omega
                        have hw1 : IntKind.i64.wrap ((j : Int) + 1) = (j : Int) + 1 := by rw [IntWalk.i64_in _ (by omega)]
                        clear hh hh2 hc h34 h92
                        obtain ⟨wa, hwa⟩ : ∃ wa, wr.alloc (.cells #[.int .u8 (s[j].toNat : Int)] 5) = wa := ⟨_, rfl⟩
                        have la : Below wr.heap.size wr wa := by rw [← hwa]; exact (Below.refl _ _).alloc (Nat.le_refl _) _
                        have Oa := Lib.hid (bytes_below Hob.out la)
                        have Ca : Hid (wa.cell? ⟨wr.heap.size, 0, none⟩ = some (.int .u8 (c.toNat : Int))) := Lib.hid (by
                          rw [← hwa, ← hcn]
                          exact Lib.cell_of_heap (heap_alloc_new wr _) 0)
                        have Ba := Lib.hid (hbx.trans (la.mono (Nat.le_trans hBB3 hbx.size)))
                        have e9 : (acc ++ [c]).length = kb + 1 := by rw [List.length_append, Hkb.out]; rfl
                        have E9 := Lib.hid e9
                        clear la Hob hbx e9 hcn
                        go_wp2_with (at_builtin; refine append_byteC rfl _ _ rfl BB (.slice aob kb capb) acc c rfl Oa.out (Nat.le_trans (by omega) Ba.out.size) (by rw [Hkb.out]; omega) wr.heap.size 1 rfl Ca.out ?_)
                        intro v' w9 hown9 hgrow
                        have b9 : Below BB w5 w9 := Ba.out.grown hgrow (Nat.le_trans (by omega) Ba.out.size) (fun q hq => (Oa.out.lt q hq).1)
                        obtain ⟨ao9, cap9, rfl⟩ := bytes_slice hown9
                        have O9 := Lib.hid hown9
                        rw [E9.out]
                        have o9 : BytesC w9 BB (.slice ao9 (kb + 1) cap9) (acc ++ [c]) := by rw [← E9.out]; exact O9.out
                        have O10 := Lib.hid o9
                        have hl9 : (acc ++ [c]).length ≤ j + 1 := by rw [E9.out]; omega
                        clear hown9 hgrow o9 Oa Ba Ca
                        go_wp2
                        go_roundw
                        case rel => exact ⟨j + 1, _, by omega, by omega, by go_num, O10.out, hl9, HH, b9⟩
                        case measure => simp [intOf]; omega
                    · have f2 : ((s[j].toNat : Int) == 92) = false := by
                        rw [hcn, beq_eq_false_iff_ne]
                        exact fun e => h92 (UInt8.toNat_inj.1 (by show c.toNat = 92; omega))
                      have HH : Hid (hearA false (acc ++ [c]) (s.data.toList.drop (j + 1)) = C) := Lib.hid (by
                        rw [← hh2, hearA, if_neg h92, if_neg h34])
                      clear hh hh2 hc h34 h92
                      obtain ⟨wa, hwa⟩ : ∃ wa, wr.alloc (.cells #[.int .u8 (s[j].toNat : Int)] 5) = wa := ⟨_, rfl⟩
                      have la : Below wr.heap.size wr wa := by rw [← hwa]; exact (Below.refl _ _).alloc (Nat.le_refl _) _
                      have Oa := Lib.hid (bytes_below Hob.out la)
                      have Ca : Hid (wa.cell? ⟨wr.heap.size, 0, none⟩ = some (.int .u8 (c.toNat : Int))) := Lib.hid (by
                        rw [← hwa, ← hcn]
                        exact Lib.cell_of_heap (heap_alloc_new wr _) 0)
                      have Ba := Lib.hid (hbx.trans (la.mono (Nat.le_trans hBB3 hbx.size)))
                      have e9 : (acc ++ [c]).length = kb + 1 := by rw [List.length_append, Hkb.out]; rfl
                      have E9 := Lib.hid e9
                      clear la Hob hbx e9 hcn
                      go_wp2_with (at_builtin; refine append_byteC rfl _ _ rfl BB (.slice aob kb capb) acc c rfl Oa.out (Nat.le_trans (by omega) Ba.out.size) (by rw [Hkb.out]; omega) wr.heap.size 1 rfl Ca.out ?_)
                      intro v' w9 hown9 hgrow
                      have b9 : Below BB w5 w9 := Ba.out.grown hgrow (Nat.le_trans (by omega) Ba.out.size) (fun q hq => (Oa.out.lt q hq).1)
                      obtain ⟨ao9, cap9, rfl⟩ := bytes_slice hown9
                      have O9 := Lib.hid hown9
                      rw [E9.out]
                      have o9 : BytesC w9 BB (.slice ao9 (kb + 1) cap9) (acc ++ [c]) := by rw [← E9.out]; exact O9.out
                      have O10 := Lib.hid o9
                      have hl9 : (acc ++ [c]).length ≤ j + 1 := by rw [E9.out]; omega
                      clear hown9 hgrow o9 Oa Ba Ca
                      go_wp2
                      go_roundw
                      case rel => exact ⟨j + 1, _, by omega, by omega, by go_num, O10.out, hl9, HH, b9⟩
                      case measure => simp [intOf]; omega
                · have hC2 : C = none := by
                    rw [← hh.out, List.drop_of_length_le (by rw [hl]; omega)]
                    rfl
                  have HFN := Lib.hid (HFF.out (HVN.out hC2))
                  have KX := Lib.hid (K5.out.1.up2 hbx (by omega))
                  clear hh hC2 hbx K5
                  obtain ⟨x0, x1, x2, x3, x4, x5⟩ := KX.out.n2.cells
                  obtain ⟨y0, y1, y2, _⟩ := KX.out.n5.cells
                  obtain ⟨k0, k1, k2, bb⟩ := KX.out.nil
                  have HE := Lib.hid (HNone.out HFN.out _ bb)
                  clear bb
                  go_wp2
                  refine bodyPost_ret (v := .tuple #[.agg #[.string ⟨#[]⟩, .string ⟨#[]⟩, .slice none 0 0], .int .i64 2]) (by simp [results, Tryz.f61, go_sem, k0, k1, k2]) rfl HE.out
      · have hnil : s.data.toList.drop j = [] := List.drop_of_length_le (by rw [hl]; omega)
        rw [hnil] at hmo
        have hmo : some l = F := hmo
        have hps := HFS.out l hmo.symm
        have hrt := fun W (hW : ParsAt W W.heap.size (.slice ao m cap) l) => r12right_any W.heap.size _ (wordC (s.data.toList.drop p1), wordC (s.data.toList.drop (p2 + 1)), l) W hW (Nat.le_refl _)
          (by unfold wordC; rw [List.length_map]; have := take_le inNameC (s.data.toList.drop p1); rw [List.length_drop] at this; omega)
          (by unfold wordC; rw [List.length_map]; have := take_le inNameC (s.data.toList.drop (p2 + 1)); rw [List.length_drop] at this; omega)
          (fun p hp => by have := HLP.out p hp; omega)
        have hrt0 := hrt wr KR.out.2.at
        unfold typeV at hrt0
        rw [HM.out, HS.out] at hrt0
        have HSm := Lib.hid (HSome.out (wordC (s.data.toList.drop p1), wordC (s.data.toList.drop (p2 + 1)), l))
        rw [HM.out, HS.out, Hm.out] at HSm
        obtain ⟨c0, c1, c2, c3, c4, c5⟩ := KR.out.1.n4.cells
        clear hmo hnil hrt hn
        cases hr : rightC (wordC (s.data.toList.drop p1), wordC (s.data.toList.drop (p2 + 1)), l) with
        | false =>
          rw [hr] at hrt0 hps
          have HFN : Hid (parseC s.data.toList = none) := Lib.hid hps
          clear hr hps
          go_wp2_with fail
          refine hrt0.mono ?_
          rintro e w8 ⟨rfl, hb⟩
          have K8 := Lib.hid (KR.out.1.step hb)
          clear hrt0 hb KR
          obtain ⟨x0, x1, x2, x3, x4, x5⟩ := K8.out.n2.cells
          obtain ⟨y0, y1, y2, _⟩ := K8.out.n5.cells
          obtain ⟨k0, k1, k2, bb⟩ := K8.out.nil
          have HE := Lib.hid (HNone.out HFN.out _ bb)
          clear bb
          go_wp2
          refine bodyPost_ret (v := .tuple #[.agg #[.string ⟨#[]⟩, .string ⟨#[]⟩, .slice none 0 0], .int .i64 2]) (by simp [results, Tryz.f61, go_sem, k0, k1, k2]) rfl HE.out
        | true =>
          rw [hr, if_pos rfl] at hps
          rw [hr] at hrt0
          have HPs := Lib.hid (HSm.out hps)
          clear hr hps HSm
          go_wp2_with fail
          refine hrt0.mono ?_
          rintro e w8 ⟨rfl, hb⟩
          have K8 := Lib.hid (KR.out.1.step hb)
          have O8 := Lib.hid (own_below KR.out.2 hb)
          clear hrt0 hb KR c0 c1 c2 c3 c4 c5
          obtain ⟨c0, c1, c2, _⟩ := K8.out.n4.cells
          obtain ⟨x0, x1, x2, x3, x4, x5⟩ := K8.out.n2.cells
          obtain ⟨k0, k1, k2, _⟩ := (K8.out.n2.put M S ao m cap).cells
          have Q := Lib.hid (HPs.out (((w8.setCell ⟨w.heap.size, 0, none⟩ (.string M)).setCell ⟨w.heap.size, 1, none⟩ (.string S)).setCell ⟨w.heap.size, 2, none⟩ (.slice ao m cap)) ao cap (by
            exact own_low (own_put (w := w) O8.out (by omega) (.string M) (.string S) (.slice ao m cap)) (by omega)) (below_putT K8.out.b (Nat.le_refl _) _ _ _))
          clear K8 O8 HPs
          go_wp2
          refine bodyPost_ret (v := .tuple #[.agg #[.string M, .string S, .slice ao m cap], .int .i64 0]) (by simp [results, Tryz.f61, go_sem, k0, k1, k2]) rfl Q.out
theorem r12parse_any (s : ByteArray) (w : World) (hs : s.size ≤ 1000000) :
    Calls Tryz.prog 61 #[.string s] w fun e w' => ∃ v, e = .returned (.tuple #[typeV (parseT s.data.toList).1 v, .int .i64 (parseT s.data.toList).2]) ∧ ParsAt w' w'.heap.size v (parseT s.data.toList).1.2.2 ∧ Below w.heap.size w w' :=
  (r12parse_own s w hs).mono fun _ _ ⟨v, h1, h2, h3⟩ => ⟨v, h1, h2.at, h3⟩
end Go.Proofs.YtidlpdiephlkhaaGreatDoor
