/-
  The document's answer of layer 11: a mailbox.
-/
import Derived.Test.YtemkikpdmihmpaaDoorR11C
namespace Go.Proofs.YtemkikpdmihmpaaDoor
open Go.RowKit

set_option maxRecDepth 100000 in
set_option maxHeartbeats 4000000 in
theorem r11mail_any (s : ByteArray) (w : World) (hs : s.size ≤ 1000000) :
    Calls Tryd.prog 13 #[.string s] w fun e w' => e = .returned (mailV (mailA s.data.toList)) ∧ Below w.heap.size w w' := by
  obtain ⟨w0, hw0⟩ : ∃ w0, w.alloc (.cells #[.string ⟨#[]⟩, .string ⟨#[]⟩, .string ⟨#[]⟩] 40) = w0 := ⟨_, rfl⟩
  have b0 : Below w.heap.size w w0 := by rw [← hw0]; exact (Below.refl _ _).alloc (Nat.le_refl _) _
  have r0 : RAt w0 w.heap.size ⟨#[]⟩ ⟨#[]⟩ ⟨#[]⟩ := by rw [← hw0]; exact rat_new w _ _ _
  obtain ⟨q0, q1, q2, q3, q4, q5⟩ := id r0.cells
  obtain ⟨k0, k1, k2, _⟩ := (r0.put ⟨#[]⟩ ⟨#[]⟩ ⟨#[]⟩).cells
  have BB := Lib.hid (below_put b0 (Nat.le_refl _) ⟨#[]⟩ ⟨#[]⟩ ⟨#[]⟩)
  have R0 := Lib.hid r0
  have B0 := Lib.hid b0
  have hrun := run_at (· != (64 : UInt8)) s.data.toList
  have HR := Lib.hid hrun
  obtain ⟨M, hM⟩ : ∃ M, mailV (mailA s.data.toList) = M := ⟨_, rfl⟩
  rw [hM]
  have HM := Lib.hid hM
  clear r0 b0 hrun hM
  go_enter Tryd.func13, Tryd.ntmps13
  go_wp2
  clear hw0
  go_loop [4] (fun iv => ∃ i : Nat, i ≤ s.size ∧ iv = .int .i64 i ∧ Hid (∀ j (h : j < s.data.toList.length), j < i → (s.data.toList[j] != 64) = true)) (fun iv => s.size - (intOf iv).toNat)
  case atStart => exact ⟨0, by omega, rfl, Lib.hid (fun j _ h => by omega)⟩
  case round =>
    obtain ⟨i, hi, rfl, hj⟩ := hrel
    by_cases hlt : i < s.size
    · by_cases h64 : s[i] = 64
      · have f1 : ((s[i].toNat : Int) != 64) = false := by rw [h64]; rfl
        have f2 : ((i : Int) == (s.size : Int)) = false := by rw [beq_eq_false_iff_ne]; omega
        obtain ⟨t1, t2⟩ := HR.out i hj.out (fun _ => by show (s[i] != 64) = false; rw [h64]; rfl)
        have hm2 : mailA s.data.toList = if rightA ([], s.data.toList.take i, s.data.toList.drop (i + 1)) = true then some ([], s.data.toList.take i, s.data.toList.drop (i + 1)) else none := by
          unfold mailA
          rw [t1, t2, cons_at s i hlt, h64, cutA_cons, if_pos rfl]
        obtain ⟨Y, hY⟩ : ∃ Y, s.extract 0 i = Y := ⟨_, rfl⟩
        obtain ⟨Z, hZ⟩ : ∃ Z, s.extract (i + 1) s.size = Z := ⟨_, rfl⟩
        have eY : textQ (s.data.toList.take i) = Y := by rw [← hY, cut_text]; simp
        have eZ : textQ (s.data.toList.drop (i + 1)) = Z := by
          rw [← hZ, cut_text]
          congr 1
          rw [List.take_of_length_le (by rw [List.length_drop]; exact Nat.le_refl _)]
        have hl : s.data.toList.length = s.size := rfl
        have hr := fun W => r11right_any ([], s.data.toList.take i, s.data.toList.drop (i + 1)) W (by simp) (by show (s.data.toList.take i).length ≤ _; rw [List.length_take]; omega) (by show (s.data.toList.drop (i + 1)).length ≤ _; rw [List.length_drop]; omega)
        unfold addrV at hr
        simp only [eY, eZ] at hr
        rw [show textQ [] = (⟨#[]⟩ : ByteArray) from rfl] at hr
        have wr1 : IntKind.i64.wrap ((i : Int) + 1) = (i : Int) + 1 := by rw [IntWalk.i64_in _ (by omega)]
        have c0 : (0 : Int) ≤ (i : Int) + 1 := by omega
        have c1 : (i : Int) + 1 ≤ (s.size : Int) := by omega
        have c2 : (i : Int) ≤ (s.size : Int) := by omega
        have HM2 := HM.out
        rw [hm2] at HM2
        clear hj h64 t1 t2 hm2 hl
        cases hrt : rightA ([], s.data.toList.take i, s.data.toList.drop (i + 1)) with
        | true =>
          rw [hrt] at hr HM2
          rw [if_pos rfl] at HM2
          have HF : Hid (.tuple #[.agg #[.string ⟨#[]⟩, .string Y, .string Z], .int .i64 0] = M) := Lib.hid (by
            rw [← HM2, ← eY, ← eZ]
            rfl)
          clear HM2 hrt eY eZ
          go_wp2_with fail
          go_region
          obtain ⟨w2, hw2⟩ : ∃ w2, (w0.alloc (.cells #[.string ⟨#[]⟩, .string Y, .string Z] 40)).drew = w2 := ⟨_, rfl⟩
          have l2 : Below w0.heap.size w0 w2 := by rw [← hw2]; exact ((Below.refl _ _).alloc (Nat.le_refl _) _).drew
          have n2 : RAt w2 w0.heap.size ⟨#[]⟩ Y Z := by rw [← hw2]; exact rat_new w0 _ _ _
          obtain ⟨x0, x1, x2, _⟩ := id n2.cells
          have N2 := Lib.hid n2
          have L2 := Lib.hid l2
          clear n2 l2 k0 k1 k2 BB HR HM
          go_wp2_with fail
          refine (hr _).mono ?_
          rintro e w3 ⟨rfl, hw3⟩
          have l3 := L2.out.trans (hw3.mono L2.out.size)
          have a3 := R0.out.below l3
          obtain ⟨z0, z1, z2, z3, z4, z5⟩ := a3.cells
          obtain ⟨v0, v1, v2, _⟩ := (N2.out.below hw3).cells
          obtain ⟨k0, k1, k2, _⟩ := (a3.put ⟨#[]⟩ Y Z).cells
          have B := Lib.hid (below_put (B0.out.trans (l3.mono B0.out.size)) (Nat.le_refl _) ⟨#[]⟩ Y Z)
          clear hr hw3 l3 a3
          go_wp2
          refine bodyPost_ret (v := .tuple #[.agg #[.string ⟨#[]⟩, .string Y, .string Z], .int .i64 0]) (by simp [results, Tryd.f13, go_sem, k0, k1, k2]) rfl ⟨by rw [HF.out], B.out⟩
        | false =>
          rw [hrt] at hr HM2
          rw [if_neg (by simp)] at HM2
          have HF : Hid (.tuple #[.agg #[.string ⟨#[]⟩, .string ⟨#[]⟩, .string ⟨#[]⟩], .int .i64 2] = M) := Lib.hid (by
            rw [← HM2]
            rfl)
          clear HM2 hrt eY eZ
          go_wp2_with fail
          go_region
          obtain ⟨w2, hw2⟩ : ∃ w2, (w0.alloc (.cells #[.string ⟨#[]⟩, .string Y, .string Z] 40)).drew = w2 := ⟨_, rfl⟩
          have l2 : Below w0.heap.size w0 w2 := by rw [← hw2]; exact ((Below.refl _ _).alloc (Nat.le_refl _) _).drew
          have n2 : RAt w2 w0.heap.size ⟨#[]⟩ Y Z := by rw [← hw2]; exact rat_new w0 _ _ _
          obtain ⟨x0, x1, x2, _⟩ := id n2.cells
          have N2 := Lib.hid n2
          have L2 := Lib.hid l2
          clear n2 l2 k0 k1 k2 BB HR HM
          go_wp2_with fail
          refine (hr _).mono ?_
          rintro e w3 ⟨rfl, hw3⟩
          have l3 := L2.out.trans (hw3.mono L2.out.size)
          have a3 := R0.out.below l3
          obtain ⟨z0, z1, z2, z3, z4, z5⟩ := a3.cells
          obtain ⟨v0, v1, v2, _⟩ := (N2.out.below hw3).cells
          obtain ⟨k0, k1, k2, _⟩ := (a3.put ⟨#[]⟩ ⟨#[]⟩ ⟨#[]⟩).cells
          have B := Lib.hid (below_put (B0.out.trans (l3.mono B0.out.size)) (Nat.le_refl _) ⟨#[]⟩ ⟨#[]⟩ ⟨#[]⟩)
          clear hr hw3 l3 a3
          go_wp2
          refine bodyPost_ret (v := .tuple #[.agg #[.string ⟨#[]⟩, .string ⟨#[]⟩, .string ⟨#[]⟩], .int .i64 2]) (by simp [results, Tryd.f13, go_sem, k0, k1, k2]) rfl ⟨by rw [HF.out], B.out⟩
      · have f1 : ((s[i].toNat : Int) != 64) = true := by
          rw [bne_iff_ne]
          exact fun e => h64 (UInt8.toNat_inj.1 (by show s[i].toNat = 64; omega))
        have Hn : Hid (∀ j (h : j < s.data.toList.length), j < i + 1 → (s.data.toList[j] != 64) = true) := Lib.hid fun j h h3 => by
          rcases Nat.lt_or_ge j i with h4 | h4
          · exact hj.out j h h4
          · obtain rfl : j = i := by omega
            exact bne_iff_ne.2 h64
        clear hj h64
        go_wp2
        go_round
        case rel => exact ⟨i + 1, by omega, by go_num, Hn⟩
        case measure => simp [intOf]; omega
    · have f2 : ((i : Int) == (s.size : Int)) = true := by rw [beq_iff_eq]; omega
      obtain ⟨t1, t2⟩ := HR.out i hj.out (fun h => absurd h hlt)
      have hm2 : mailA s.data.toList = none := by
        unfold mailA
        rw [t2, List.drop_of_length_le (by show s.size ≤ i; omega)]
        rfl
      have HF : Hid (.tuple #[.agg #[.string ⟨#[]⟩, .string ⟨#[]⟩, .string ⟨#[]⟩], .int .i64 2] = M) := Lib.hid (by
        rw [← HM.out, hm2]
        rfl)
      clear hj t1 t2 hm2
      go_wp2
      refine bodyPost_ret (v := .tuple #[.agg #[.string ⟨#[]⟩, .string ⟨#[]⟩, .string ⟨#[]⟩], .int .i64 2]) (by simp [results, Tryd.f13, go_sem, k0, k1, k2]) rfl ⟨by rw [HF.out], BB.out⟩
end Go.Proofs.YtemkikpdmihmpaaDoor
