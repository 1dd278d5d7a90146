/-
  MimeCodings: the walk.
-/
import Derived.Test.YtidlpdiephlkhaaGreatDoorZ44
import Derived.Test.YtidlpdiephlkhaaGreatDoorZ16
import Derived.Test.YtidlpdiephlkhaaGreatDoorZ23
import Derived.Test.YtidlpdiephlkhaaGreatDoorZ24
namespace Go.Proofs.YtidlpdiephlkhaaGreatDoor
open Go.RowKit

/-- A leaf of a text's own, without fields or with one: what is asked of it. -/
theorem leaf_parse (S : ByteArray) (T : TextH) (fs : List FieldH) (b : TextH) (D : ByteArray) (m : Int) (w : World) (hS : S.data.toList = T) (hT : parseM T = (.mk fs (textM, plainM, []) b [], 0)) (hD : textQ b = D) (hs : S.size ≤ 1000000) (hm : w.cell? ⟨0, 0, none⟩ = some (.int .i64 m)) :
    Calls Tryz.prog 11 #[.string S] w fun e w' => (∃ a1 n1 c1 a2 n2 c2 a3 n3 c3, e = .returned (.tuple #[.agg #[.slice a1 n1 c1, .string ⟨#[116, 101, 120, 116]⟩, .string ⟨#[112, 108, 97, 105, 110]⟩, .slice a2 n2 c2, .string D, .slice a3 n3 c3], .int .i64 0])) ∧ Below w.heap.size w w' := by
  refine (mparse_any S m w hs hm).mono ?_
  rintro e w' ⟨fv, pv, rv, rfl, ht, hb⟩
  rw [hS, hT] at ht ⊢
  obtain ⟨⟨a1, n1, c1, rfl⟩, ⟨a2, n2, c2, rfl⟩, ⟨a3, n3, c3, rfl⟩⟩ := ht.slices
  exact ⟨⟨a1, n1, c1, a2, n2, c2, a3, n3, c3, by rw [← hD]; rfl⟩, hb⟩
/-- A part of plain text in a block. -/
def PlainAt (W : World) (B : Nat) (D : ByteArray) : Prop := ∃ a1 n1 c1 a2 n2 c2 a3 n3 c3, PrtAt W B (.slice a1 n1 c1) (.string ⟨#[116, 101, 120, 116]⟩) (.string ⟨#[112, 108, 97, 105, 110]⟩) (.slice a2 n2 c2) (.string D) (.slice a3 n3 c3)
theorem PlainAt.below {W W' : World} {B : Nat} {D : ByteArray} (h : PlainAt W B D) (k : Below W.heap.size W W') : PlainAt W' B D := by
  obtain ⟨a1, n1, c1, a2, n2, c2, a3, n3, c3, h⟩ := h
  exact ⟨a1, n1, c1, a2, n2, c2, a3, n3, c3, h.below k⟩
theorem PlainAt.cells {W : World} {B : Nat} {D : ByteArray} (h : PlainAt W B D) : W.cell? ⟨B, 1, none⟩ = some (.string ⟨#[116, 101, 120, 116]⟩) ∧ W.cell? ⟨B, 2, none⟩ = some (.string ⟨#[112, 108, 97, 105, 110]⟩) ∧ W.cell? ⟨B, 4, none⟩ = some (.string D) := by
  obtain ⟨a1, n1, c1, a2, n2, c2, a3, n3, c3, h⟩ := h
  obtain ⟨_, c1, c2, _, c4, _⟩ := h.cells
  exact ⟨c1, c2, c4⟩

set_option maxRecDepth 100000 in
set_option maxHeartbeats 8000000 in
theorem mcodings_walk (s : ByteArray) (b : Bool) (m : Int) (w : World) (hm : w.cell? ⟨0, 0, none⟩ = some (.int .i64 m)) (hs : s.size ≤ maxLen) :
    Calls Tryz.prog 7 #[.string s, .bool b] w fun e w' => e = .returned (.bool true) ∧ Below w.heap.size w w' := by
  have haw := awake13_any m w hm
  have HM : Hid (∀ W, Below w.heap.size w W → W.cell? ⟨0, 0, none⟩ = some (.int .i64 m)) := Lib.hid fun W hW => bound_abide hm hW
  have hl : s.data.toList.length = s.size := rfl
  have hts : textQ s.data.toList = s := rfl
  unfold maxLen at hs
  clear hm
  go_enter Tryz.func7, Tryz.ntmps7
  go_wp2_with fail
  refine haw.mono ?_
  rintro e w1 ⟨rfl, hw1⟩
  have B1 := Lib.hid hw1
  clear haw hw1
  by_cases h1 : 2000 < s.size
  · have h1i : (2000 : Int) < (s.size : Int) := by omega
    clear h1
    go_wp2
    go_ret
    exact ⟨rfl, B1.out⟩
  · have h1i : (s.size : Int) ≤ 2000 := by omega
    have hf := fold_any s w1 (by omega)
    obtain ⟨F, hF⟩ : ∃ F : ByteArray, ⟨(foldB (encB s.data.toList)).toArray⟩ = F := ⟨_, rfl⟩
    have hFd : F.data.toList = foldB (encB s.data.toList) := by rw [← hF]
    have hFs : F.size ≤ 3000 := by
      have e : F.size = F.data.toList.length := rfl
      rw [e, hFd]
      exact fold_enc_len _ (by omega)
    rw [hF] at hf
    have hq : Hid (∀ W, Below w.heap.size w W → Calls Tryz.prog 25 #[.string s] W fun e w' => e = .returned (.string ⟨(encQ s.data.toList).toArray⟩) ∧ Below W.heap.size W w') := Lib.hid fun W hW => q4enc_any s m W (by omega) (HM.out W hW)
    obtain ⟨G, hG⟩ : ∃ G : ByteArray, ⟨(encQ s.data.toList).toArray⟩ = G := ⟨_, rfl⟩
    have hGd : G.data.toList = encQ s.data.toList := by rw [← hG]
    have hGs : G.size ≤ 12000 := by
      have e : G.size = G.data.toList.length := rfl
      have := encQ_len s.data.toList
      rw [e, hGd]
      omega
    rw [hG] at hq
    obtain ⟨Z, hZ⟩ : ∃ Z : ByteArray, (⟨#[67, 111, 110, 116, 101, 110, 116, 45, 84, 114, 97, 110, 115, 102, 101, 114, 45, 69, 110, 99, 111, 100, 105, 110, 103, 58, 32, 56, 98, 105, 116, 13, 10, 13, 10]⟩ : ByteArray) ++ s = Z := ⟨_, rfl⟩
    have h3 : Hid (∀ W, Below w.heap.size w W → Calls Tryz.prog 11 #[.string Z] W fun e w' => (∃ a1 n1 c1 a2 n2 c2 a3 n3 c3, e = .returned (.tuple #[.agg #[.slice a1 n1 c1, .string ⟨#[116, 101, 120, 116]⟩, .string ⟨#[112, 108, 97, 105, 110]⟩, .slice a2 n2 c2, .string s, .slice a3 n3 c3], .int .i64 0])) ∧ Below W.heap.size W w') := Lib.hid fun W hW => by
      have hd : Z.data.toList = bit8L ++ 13 :: 10 :: 13 :: 10 :: s.data.toList := by
        rw [← hZ, ByteArray.data_append, Array.toList_append]
        rfl
      have hz : (bit8L ++ 13 :: 10 :: 13 :: 10 :: s.data.toList).length ≤ 2100 := by
        have : bit8L.length = 31 := rfl
        simp only [List.length_append, List.length_cons]
        omega
      refine leaf_parse Z _ _ s.data.toList s m W hd (tree_line bit8_line bit8_cod.2 (by decide) ?_ (by omega)) hts ?_ (HM.out W hW)
      · rw [bit8_cod.1]
        rfl
      · have e : Z.size = Z.data.toList.length := rfl
        rw [e, hd]
        omega
    obtain ⟨V, hV⟩ : ∃ V : ByteArray, (⟨#[13, 10]⟩ : ByteArray) ++ s = V := ⟨_, rfl⟩
    have h4 : Hid (∀ W, Below w.heap.size w W → Calls Tryz.prog 11 #[.string V] W fun e w' => (∃ a1 n1 c1 a2 n2 c2 a3 n3 c3, e = .returned (.tuple #[.agg #[.slice a1 n1 c1, .string ⟨#[116, 101, 120, 116]⟩, .string ⟨#[112, 108, 97, 105, 110]⟩, .slice a2 n2 c2, .string s, .slice a3 n3 c3], .int .i64 0])) ∧ Below W.heap.size W w') := Lib.hid fun W hW => by
      have hd : V.data.toList = 13 :: 10 :: s.data.toList := by
        rw [← hV, ByteArray.data_append, Array.toList_append]
        rfl
      refine leaf_parse V _ _ s.data.toList s m W hd (tree_bare (by omega)) hts ?_ (HM.out W hW)
      have e : V.size = V.data.toList.length := rfl
      rw [e, hd]
      simp only [List.length_cons]
      omega
    have g3 : ¬ 9223372036854775807 < 35 + s.size := by omega
    have g4 : ¬ 9223372036854775807 < 2 + s.size := by omega
    have step : Hid (∀ W W', Below w.heap.size w W → Below W.heap.size W W' → Below w.heap.size w W') := Lib.hid fun W W' h k => h.trans (k.mono h.size)
    have hal : Hid (∀ (W : World) a1 n1 c1 a2 n2 c2 a3 n3 c3, Below W.heap.size W (W.alloc (.cells #[.slice a1 n1 c1, .string ⟨#[116, 101, 120, 116]⟩, .string ⟨#[112, 108, 97, 105, 110]⟩, .slice a2 n2 c2, .string s, .slice a3 n3 c3] 29)) ∧ PlainAt (W.alloc (.cells #[.slice a1 n1 c1, .string ⟨#[116, 101, 120, 116]⟩, .string ⟨#[112, 108, 97, 105, 110]⟩, .slice a2 n2 c2, .string s, .slice a3 n3 c3] 29)) W.heap.size s) := Lib.hid fun W a1 n1 c1 a2 n2 c2 a3 n3 c3 => ⟨(Below.refl _ _).alloc (Nat.le_refl _) _, _, _, _, _, _, _, _, _, _, prt_new W _ _ _ _ _ _⟩
    cases b with
    | false =>
      obtain ⟨S, hS⟩ : ∃ S : ByteArray, (⟨#[67, 111, 110, 116, 101, 110, 116, 45, 84, 114, 97, 110, 115, 102, 101, 114, 45, 69, 110, 99, 111, 100, 105, 110, 103, 58, 32]⟩ : ByteArray) ++ (⟨#[98, 97, 115, 101, 54, 52]⟩ : ByteArray) ++ (⟨#[13, 10, 13, 10]⟩ : ByteArray) ++ F = S := ⟨_, rfl⟩
      have e1 : Hid (∀ W, Below w.heap.size w W → Calls Tryz.prog 11 #[.string S] W fun e w' => (∃ a1 n1 c1 a2 n2 c2 a3 n3 c3, e = .returned (.tuple #[.agg #[.slice a1 n1 c1, .string ⟨#[116, 101, 120, 116]⟩, .string ⟨#[112, 108, 97, 105, 110]⟩, .slice a2 n2 c2, .string s, .slice a3 n3 c3], .int .i64 0])) ∧ Below W.heap.size W w') := Lib.hid fun W hW => by
        have hd : S.data.toList = b64L ++ 13 :: 10 :: 13 :: 10 :: foldB (encB s.data.toList) := by
          rw [← hS, ByteArray.data_append, ByteArray.data_append, ByteArray.data_append, Array.toList_append, Array.toList_append, Array.toList_append, hFd]
          rfl
        have hz : (b64L ++ 13 :: 10 :: 13 :: 10 :: foldB (encB s.data.toList)).length ≤ 4000 := by
          have : b64L.length = 33 := rfl
          rw [← hFd]
          simp only [List.length_append, List.length_cons]
          have e : F.size = F.data.toList.length := rfl
          omega
        refine leaf_parse S _ _ s.data.toList s m W hd (tree_line b64_line b64_cod.2 (by decide) ?_ (by omega)) hts ?_ (HM.out W hW)
        · rw [b64_cod.1]
          exact coded_b64 _
        · have e : S.size = S.data.toList.length := rfl
          rw [e, hd]
          omega
      obtain ⟨T, hT⟩ : ∃ T : ByteArray, (⟨#[99, 111, 110, 116, 101, 110, 116, 45, 116, 114, 97, 110, 115, 102, 101, 114, 45, 101, 110, 99, 111, 100, 105, 110, 103, 58]⟩ : ByteArray) ++ (⟨#[113, 117, 111, 116, 101, 100, 45, 112, 114, 105, 110, 116, 97, 98, 108, 101]⟩ : ByteArray) ++ (⟨#[13, 10, 13, 10]⟩ : ByteArray) ++ G = T := ⟨_, rfl⟩
      have e2 : Hid (∀ W, Below w.heap.size w W → Calls Tryz.prog 11 #[.string T] W fun e w' => (∃ a1 n1 c1 a2 n2 c2 a3 n3 c3, e = .returned (.tuple #[.agg #[.slice a1 n1 c1, .string ⟨#[116, 101, 120, 116]⟩, .string ⟨#[112, 108, 97, 105, 110]⟩, .slice a2 n2 c2, .string s, .slice a3 n3 c3], .int .i64 0])) ∧ Below W.heap.size W w') := Lib.hid fun W hW => by
        have hd : T.data.toList = qpL ++ 13 :: 10 :: 13 :: 10 :: encQ s.data.toList := by
          rw [← hT, ByteArray.data_append, ByteArray.data_append, ByteArray.data_append, Array.toList_append, Array.toList_append, Array.toList_append, hGd]
          rfl
        have hz : (qpL ++ 13 :: 10 :: 13 :: 10 :: encQ s.data.toList).length ≤ 13000 := by
          have : qpL.length = 42 := rfl
          rw [← hGd]
          simp only [List.length_append, List.length_cons]
          have e : G.size = G.data.toList.length := rfl
          omega
        refine leaf_parse T _ _ s.data.toList s m W hd (tree_line qp_line qp_cod.2 (by decide) ?_ (by omega)) hts ?_ (HM.out W hW)
        · rw [qp_cod.1]
          exact coded_qp _
        · have e : T.size = T.data.toList.length := rfl
          rw [e, hd]
          omega
      have g1 : ¬ 9223372036854775807 < 37 + F.size := by omega
      have g2 : ¬ 9223372036854775807 < 46 + G.size := by omega
      clear HM hF hFd hFs hG hGd hGs hts hl hs h1
      go_wp2_with fail
      refine hf.mono ?_
      rintro e w2 ⟨rfl, hb⟩
      have B2 := Lib.hid (step.out _ _ B1.out hb)
      have k1 := e1.out w2 B2.out
      clear hf hb B1 e1
      go_wp2_with fail
      refine k1.mono ?_
      rintro e w3 ⟨⟨a1, n1, c1, a2, n2, c2, a3, n3, c3, rfl⟩, hb⟩
      obtain ⟨l4, q4⟩ := hal.out w3 a1 n1 c1 a2 n2 c2 a3 n3 c3
      obtain ⟨w4, hw4⟩ : ∃ W, w3.alloc (.cells #[.slice a1 n1 c1, .string ⟨#[116, 101, 120, 116]⟩, .string ⟨#[112, 108, 97, 105, 110]⟩, .slice a2 n2 c2, .string s, .slice a3 n3 c3] 29) = W := ⟨_, rfl⟩
      rw [hw4] at l4 q4
      have K4 := Lib.hid (And.intro (step.out _ _ (step.out _ _ B2.out hb) l4) q4)
      have k2 := hq.out w4 K4.out.1
      clear k1 hb B2 l4 q4 hq
      go_wp2_with fail
      refine k2.mono ?_
      rintro e w5 ⟨rfl, hb⟩
      have K5 := Lib.hid (And.intro (step.out _ _ K4.out.1 hb) (K4.out.2.below hb))
      have k3 := e2.out w5 K5.out.1
      clear k2 hb K4 e2
      go_wp2_with fail
      refine k3.mono ?_
      rintro e w6 ⟨⟨a4, n4, c4, a5, n5, c5, a6, n6, c6, rfl⟩, hb⟩
      obtain ⟨l7, q7⟩ := hal.out w6 a4 n4 c4 a5 n5 c5 a6 n6 c6
      obtain ⟨w7, hw7⟩ : ∃ W, w6.alloc (.cells #[.slice a4 n4 c4, .string ⟨#[116, 101, 120, 116]⟩, .string ⟨#[112, 108, 97, 105, 110]⟩, .slice a5 n5 c5, .string s, .slice a6 n6 c6] 29) = W := ⟨_, rfl⟩
      rw [hw7] at l7 q7
      have K7 := Lib.hid (And.intro (step.out _ _ (step.out _ _ K5.out.1 hb) l7) (And.intro ((K5.out.2.below hb).below l7) q7))
      have k4 := h3.out w7 K7.out.1
      clear k3 hb K5 l7 q7 h3
      go_wp2_with fail
      refine k4.mono ?_
      rintro e w8 ⟨⟨a7, n7, c7, a8, n8, c8, a9, n9, c9, rfl⟩, hb⟩
      obtain ⟨l9, q9⟩ := hal.out w8 a7 n7 c7 a8 n8 c8 a9 n9 c9
      obtain ⟨w9, hw9⟩ : ∃ W, w8.alloc (.cells #[.slice a7 n7 c7, .string ⟨#[116, 101, 120, 116]⟩, .string ⟨#[112, 108, 97, 105, 110]⟩, .slice a8 n8 c8, .string s, .slice a9 n9 c9] 29) = W := ⟨_, rfl⟩
      rw [hw9] at l9 q9
      have K9 := Lib.hid (And.intro (step.out _ _ (step.out _ _ K7.out.1 hb) l9) (And.intro ((K7.out.2.1.below hb).below l9) (And.intro ((K7.out.2.2.below hb).below l9) q9)))
      have k5 := h4.out w9 K9.out.1
      clear k4 hb K7 l9 q9 h4
      go_wp2_with fail
      refine k5.mono ?_
      rintro e wa ⟨⟨d1, m1, f1, d2, m2, f2, d3, m3, f3, rfl⟩, hb⟩
      obtain ⟨lb, qb⟩ := hal.out wa d1 m1 f1 d2 m2 f2 d3 m3 f3
      obtain ⟨wb, hwb⟩ : ∃ W, wa.alloc (.cells #[.slice d1 m1 f1, .string ⟨#[116, 101, 120, 116]⟩, .string ⟨#[112, 108, 97, 105, 110]⟩, .slice d2 m2 f2, .string s, .slice d3 m3 f3] 29) = W := ⟨_, rfl⟩
      rw [hwb] at lb qb
      have Kb := Lib.hid (And.intro (step.out _ _ (step.out _ _ K9.out.1 hb) lb) (And.intro ((K9.out.2.1.below hb).below lb) (And.intro ((K9.out.2.2.1.below hb).below lb) (And.intro ((K9.out.2.2.2.below hb).below lb) qb))))
      obtain ⟨_, _, x1⟩ := Kb.out.2.1.cells
      obtain ⟨_, _, x2⟩ := Kb.out.2.2.1.cells
      obtain ⟨_, _, x3⟩ := Kb.out.2.2.2.1.cells
      obtain ⟨x4, x5, x6⟩ := Kb.out.2.2.2.2.cells
      clear k5 hb K9 lb qb step hal
      go_wp2
      go_ret
      exact ⟨rfl, Kb.out.1⟩
    | true =>
      obtain ⟨S, hS⟩ : ∃ S : ByteArray, (⟨#[67, 111, 110, 116, 101, 110, 116, 45, 84, 114, 97, 110, 115, 102, 101, 114, 45, 69, 110, 99, 111, 100, 105, 110, 103, 58, 32]⟩ : ByteArray) ++ (⟨#[66, 65, 83, 69, 54, 52]⟩ : ByteArray) ++ (⟨#[13, 10, 13, 10]⟩ : ByteArray) ++ F = S := ⟨_, rfl⟩
      have e1 : Hid (∀ W, Below w.heap.size w W → Calls Tryz.prog 11 #[.string S] W fun e w' => (∃ a1 n1 c1 a2 n2 c2 a3 n3 c3, e = .returned (.tuple #[.agg #[.slice a1 n1 c1, .string ⟨#[116, 101, 120, 116]⟩, .string ⟨#[112, 108, 97, 105, 110]⟩, .slice a2 n2 c2, .string s, .slice a3 n3 c3], .int .i64 0])) ∧ Below W.heap.size W w') := Lib.hid fun W hW => by
        have hd : S.data.toList = b64uL ++ 13 :: 10 :: 13 :: 10 :: foldB (encB s.data.toList) := by
          rw [← hS, ByteArray.data_append, ByteArray.data_append, ByteArray.data_append, Array.toList_append, Array.toList_append, Array.toList_append, hFd]
          rfl
        have hz : (b64uL ++ 13 :: 10 :: 13 :: 10 :: foldB (encB s.data.toList)).length ≤ 4000 := by
          have : b64uL.length = 33 := rfl
          rw [← hFd]
          simp only [List.length_append, List.length_cons]
          have e : F.size = F.data.toList.length := rfl
          omega
        refine leaf_parse S _ _ s.data.toList s m W hd (tree_line b64u_line b64u_cod.2 (by decide) ?_ (by omega)) hts ?_ (HM.out W hW)
        · rw [b64u_cod.1]
          exact coded_b64 _
        · have e : S.size = S.data.toList.length := rfl
          rw [e, hd]
          omega
      obtain ⟨T, hT⟩ : ∃ T : ByteArray, (⟨#[99, 111, 110, 116, 101, 110, 116, 45, 116, 114, 97, 110, 115, 102, 101, 114, 45, 101, 110, 99, 111, 100, 105, 110, 103, 58]⟩ : ByteArray) ++ (⟨#[81, 117, 111, 116, 101, 100, 45, 80, 114, 105, 110, 116, 97, 98, 108, 101]⟩ : ByteArray) ++ (⟨#[13, 10, 13, 10]⟩ : ByteArray) ++ G = T := ⟨_, rfl⟩
      have e2 : Hid (∀ W, Below w.heap.size w W → Calls Tryz.prog 11 #[.string T] W fun e w' => (∃ a1 n1 c1 a2 n2 c2 a3 n3 c3, e = .returned (.tuple #[.agg #[.slice a1 n1 c1, .string ⟨#[116, 101, 120, 116]⟩, .string ⟨#[112, 108, 97, 105, 110]⟩, .slice a2 n2 c2, .string s, .slice a3 n3 c3], .int .i64 0])) ∧ Below W.heap.size W w') := Lib.hid fun W hW => by
        have hd : T.data.toList = qpuL ++ 13 :: 10 :: 13 :: 10 :: encQ s.data.toList := by
          rw [← hT, ByteArray.data_append, ByteArray.data_append, ByteArray.data_append, Array.toList_append, Array.toList_append, Array.toList_append, hGd]
          rfl
        have hz : (qpuL ++ 13 :: 10 :: 13 :: 10 :: encQ s.data.toList).length ≤ 13000 := by
          have : qpuL.length = 42 := rfl
          rw [← hGd]
          simp only [List.length_append, List.length_cons]
          have e : G.size = G.data.toList.length := rfl
          omega
        refine leaf_parse T _ _ s.data.toList s m W hd (tree_line qpu_line qpu_cod.2 (by decide) ?_ (by omega)) hts ?_ (HM.out W hW)
        · rw [qpu_cod.1]
          exact coded_qp _
        · have e : T.size = T.data.toList.length := rfl
          rw [e, hd]
          omega
      have g1 : ¬ 9223372036854775807 < 37 + F.size := by omega
      have g2 : ¬ 9223372036854775807 < 46 + G.size := by omega
      clear HM hF hFd hFs hG hGd hGs hts hl hs h1
      go_wp2_with fail
      refine hf.mono ?_
      rintro e w2 ⟨rfl, hb⟩
      have B2 := Lib.hid (step.out _ _ B1.out hb)
      have k1 := e1.out w2 B2.out
      clear hf hb B1 e1
      go_wp2_with fail
      refine k1.mono ?_
      rintro e w3 ⟨⟨a1, n1, c1, a2, n2, c2, a3, n3, c3, rfl⟩, hb⟩
      obtain ⟨l4, q4⟩ := hal.out w3 a1 n1 c1 a2 n2 c2 a3 n3 c3
      obtain ⟨w4, hw4⟩ : ∃ W, w3.alloc (.cells #[.slice a1 n1 c1, .string ⟨#[116, 101, 120, 116]⟩, .string ⟨#[112, 108, 97, 105, 110]⟩, .slice a2 n2 c2, .string s, .slice a3 n3 c3] 29) = W := ⟨_, rfl⟩
      rw [hw4] at l4 q4
      have K4 := Lib.hid (And.intro (step.out _ _ (step.out _ _ B2.out hb) l4) q4)
      have k2 := hq.out w4 K4.out.1
      clear k1 hb B2 l4 q4 hq
      go_wp2_with fail
      refine k2.mono ?_
      rintro e w5 ⟨rfl, hb⟩
      have K5 := Lib.hid (And.intro (step.out _ _ K4.out.1 hb) (K4.out.2.below hb))
      have k3 := e2.out w5 K5.out.1
      clear k2 hb K4 e2
      go_wp2_with fail
      refine k3.mono ?_
      rintro e w6 ⟨⟨a4, n4, c4, a5, n5, c5, a6, n6, c6, rfl⟩, hb⟩
      obtain ⟨l7, q7⟩ := hal.out w6 a4 n4 c4 a5 n5 c5 a6 n6 c6
      obtain ⟨w7, hw7⟩ : ∃ W, w6.alloc (.cells #[.slice a4 n4 c4, .string ⟨#[116, 101, 120, 116]⟩, .string ⟨#[112, 108, 97, 105, 110]⟩, .slice a5 n5 c5, .string s, .slice a6 n6 c6] 29) = W := ⟨_, rfl⟩
      rw [hw7] at l7 q7
      have K7 := Lib.hid (And.intro (step.out _ _ (step.out _ _ K5.out.1 hb) l7) (And.intro ((K5.out.2.below hb).below l7) q7))
      have k4 := h3.out w7 K7.out.1
      clear k3 hb K5 l7 q7 h3
      go_wp2_with fail
      refine k4.mono ?_
      rintro e w8 ⟨⟨a7, n7, c7, a8, n8, c8, a9, n9, c9, rfl⟩, hb⟩
      obtain ⟨l9, q9⟩ := hal.out w8 a7 n7 c7 a8 n8 c8 a9 n9 c9
      obtain ⟨w9, hw9⟩ : ∃ W, w8.alloc (.cells #[.slice a7 n7 c7, .string ⟨#[116, 101, 120, 116]⟩, .string ⟨#[112, 108, 97, 105, 110]⟩, .slice a8 n8 c8, .string s, .slice a9 n9 c9] 29) = W := ⟨_, rfl⟩
      rw [hw9] at l9 q9
      have K9 := Lib.hid (And.intro (step.out _ _ (step.out _ _ K7.out.1 hb) l9) (And.intro ((K7.out.2.1.below hb).below l9) (And.intro ((K7.out.2.2.below hb).below l9) q9)))
      have k5 := h4.out w9 K9.out.1
      clear k4 hb K7 l9 q9 h4
      go_wp2_with fail
      refine k5.mono ?_
      rintro e wa ⟨⟨d1, m1, f1, d2, m2, f2, d3, m3, f3, rfl⟩, hb⟩
      obtain ⟨lb, qb⟩ := hal.out wa d1 m1 f1 d2 m2 f2 d3 m3 f3
      obtain ⟨wb, hwb⟩ : ∃ W, wa.alloc (.cells #[.slice d1 m1 f1, .string ⟨#[116, 101, 120, 116]⟩, .string ⟨#[112, 108, 97, 105, 110]⟩, .slice d2 m2 f2, .string s, .slice d3 m3 f3] 29) = W := ⟨_, rfl⟩
      rw [hwb] at lb qb
      have Kb := Lib.hid (And.intro (step.out _ _ (step.out _ _ K9.out.1 hb) lb) (And.intro ((K9.out.2.1.below hb).below lb) (And.intro ((K9.out.2.2.1.below hb).below lb) (And.intro ((K9.out.2.2.2.below hb).below lb) qb))))
      obtain ⟨_, _, x1⟩ := Kb.out.2.1.cells
      obtain ⟨_, _, x2⟩ := Kb.out.2.2.1.cells
      obtain ⟨_, _, x3⟩ := Kb.out.2.2.2.1.cells
      obtain ⟨x4, x5, x6⟩ := Kb.out.2.2.2.2.cells
      clear k5 hb K9 lb qb step hal
      go_wp2
      go_ret
      exact ⟨rfl, Kb.out.1⟩
end Go.Proofs.YtidlpdiephlkhaaGreatDoor
