/-
  What ctype's taker and Parse come to.
-/
import Derived.Test.YtafpifpgfpkckaaDoorCtI
namespace Go.Proofs.YtafpifpgfpkckaaDoor
open Go.RowKit

/-- What parsing comes to. -/
def parseT (s : TextA) : TypeC × Int := match parseC s with
  | none => (([], [], []), 2)
  | some t => (t, 0)
theorem ctaker_any (S : ByteArray) (w : World) : Calls Tryd.prog 27 #[.string S] w fun e w' => e = .returned (takeV w.heap.size) ∧ w' = w.alloc (.cells #[.string S] 9) := by
  have hmf : ∀ (fn : Fn) (first cap : Array Value) (w : World), (Instr.makeFunc fn first cap).run Tryd.prog w = .ok (.func fn first cap) w := fun _ _ _ _ => rfl
  unfold takeV
  go_enter Tryd.func27, Tryd.ntmps27
  go_wp2
  go_ret
  exact ⟨rfl, rfl⟩

set_option maxRecDepth 100000 in
set_option maxHeartbeats 4000000 in
theorem cparse_any (S : ByteArray) (w : World) (hs : S.size ≤ 10000000) :
    Calls Tryd.prog 12 #[.string S] w fun e w' => ∃ v, e = .returned (.tuple #[typeV (parseT S.data.toList).1 v, .int .i64 (parseT S.data.toList).2]) ∧ ParsAt w' w'.heap.size v (parseT S.data.toList).1.2.2 ∧ Below w.heap.size w w' := by
  obtain ⟨w0, hw0⟩ : ∃ w0, w.alloc (.cells #[.string ⟨#[]⟩, .string ⟨#[]⟩, .slice none 0 0] 24) = w0 := ⟨_, rfl⟩
  have l0 : Below w.heap.size w w0 := by rw [← hw0]; exact (Below.refl _ _).alloc (Nat.le_refl _) _
  have z0 : w.heap.size < w0.heap.size := by rw [← hw0]; simp
  have t0 : TypAt w0 w.heap.size ⟨#[]⟩ ⟨#[]⟩ none 0 0 := by rw [← hw0]; exact typ_new w _ _ _ _ _
  have htk := ctaker_any S w0
  obtain ⟨w1, hw1⟩ : ∃ w1, w0.alloc (.cells #[.string S] 9) = w1 := ⟨_, rfl⟩
  rw [hw1] at htk
  have l1 : Below w0.heap.size w0 w1 := by rw [← hw1]; exact (Below.refl _ _).alloc (Nat.le_refl _) _
  have z1 : w0.heap.size < w1.heap.size := by rw [← hw1]; simp
  have xT : Boxed w1 w0.heap.size 9 (.string (textQ S.data.toList)) := by
    rw [show textQ S.data.toList = S from rfl, ← hw1]
    exact Boxed.new _ _ _
  have hrt := crdtype_any w0.heap.size S.data.toList w1 xT hs
  have T1 := Lib.hid (And.intro (t0.below l1) (l0.trans (l1.mono (by omega))))
  clear l0 t0 l1 xT
  unfold parseT parseC
  cases hq : readC S.data.toList with
  | none =>
    rw [hq] at hrt
    have hrt2 : Calls Tryd.prog 26 #[takeV w0.heap.size] w1 fun e w' => (∃ X Y ao n cap, e = .returned (.tuple #[.agg #[.string X, .string Y, .slice ao n cap], .bool false])) ∧ TakeK w0.heap.size w1.heap.size w1 w' := hrt
    show Calls _ _ _ _ fun e w' => ∃ v, e = .returned (.tuple #[.agg #[.string ⟨#[]⟩, .string ⟨#[]⟩, v], .int .i64 2]) ∧ ParsAt w' w'.heap.size v [] ∧ Below w.heap.size w w'
    unfold takeV at htk hrt2
    clear hrt hq
    go_enter Tryd.func12, Tryd.ntmps12
    go_wp2_with fail
    refine htk.mono ?_
    rintro e w2 ⟨rfl, h9⟩
    obtain rfl := h9.symm
    clear htk h9
    go_wp2_with fail
    refine hrt2.mono ?_
    rintro e w3 ⟨⟨X, Y, ao, n, cap, rfl⟩, q1⟩
    obtain ⟨w4, hw4⟩ : ∃ w4, w3.alloc (.cells #[.string X, .string Y, .slice ao n cap] 24) = w4 := ⟨_, rfl⟩
    have l4 : Below w3.heap.size w3 w4 := by rw [← hw4]; exact (Below.refl _ _).alloc (Nat.le_refl _) _
    have n4 : TypAt w4 w3.heap.size X Y ao n cap := by rw [← hw4]; exact typ_new w3 _ _ _ _ _
    have t3 : TypAt w3 w.heap.size ⟨#[]⟩ ⟨#[]⟩ none 0 0 := q1.heap T1.out.1 (by omega) (by omega)
    have t4 := t3.below l4
    obtain ⟨c0, c1, c2, c3, c4, c5⟩ := t4.cells
    obtain ⟨k0, k1, k2, _⟩ := (t4.put ⟨#[]⟩ ⟨#[]⟩ none 0 0).cells
    have B := Lib.hid (below_putT ((T1.out.2.trans (q1.below (by omega) (by omega))).trans (l4.mono (by have := q1.size; omega))) (Nat.le_refl w.heap.size) (.string ⟨#[]⟩) (.string ⟨#[]⟩) (.slice none 0 0))
    clear hrt2 q1 l4 n4 t3 t4 T1
    go_wp2
    refine bodyPost_ret (v := .tuple #[.agg #[.string ⟨#[]⟩, .string ⟨#[]⟩, .slice none 0 0], .int .i64 2]) (by simp [results, Tryd.f12, go_sem, k0, k1, k2]) rfl ⟨_, rfl, ParsAt.nil _ _, B.out⟩
  | some t =>
    rw [hq] at hrt
    obtain ⟨X, hX⟩ : ∃ X, textQ t.1 = X := ⟨_, rfl⟩
    obtain ⟨Y, hY⟩ : ∃ Y, textQ t.2.1 = Y := ⟨_, rfl⟩
    have hrt2 : Calls Tryd.prog 26 #[takeV w0.heap.size] w1 fun e w' => (∃ ao cap, e = .returned (.tuple #[.agg #[.string X, .string Y, .slice ao t.2.2.length cap], .bool true]) ∧ Hid (ParsOwn w' (w1.heap.size + 1) (.slice ao t.2.2.length cap) t.2.2)) ∧ TakeK w0.heap.size w1.heap.size w1 w' := hrt.mono fun e w' ⟨⟨ao, cap, h1, h2⟩, h3⟩ => ⟨⟨ao, cap, by rw [h1, ← hX, ← hY], Lib.hid h2⟩, h3⟩
    have hrg : Hid (∀ W ao cap, ParsAt W W.heap.size (.slice ao t.2.2.length cap) t.2.2 → Calls Tryd.prog 17 #[.agg #[.string X, .string Y, .slice ao t.2.2.length cap]] W fun e w' => e = .returned (.bool (rightC t)) ∧ Below W.heap.size W w') := Lib.hid fun W ao cap hW => by
      have := cright_any W.heap.size _ t W hW (Nat.le_refl _)
      unfold typeV at this
      rw [hX, hY] at this
      exact this
    simp only
    obtain ⟨P, hP⟩ : ∃ P : TypeC × Int, (match (if rightC t = true then some t else none) with | none => ((([], [], []) : TypeC), (2 : Int)) | some t => (t, 0)) = P := ⟨_, rfl⟩
    show Calls _ _ _ _ fun e w' => ∃ v, e = .returned (.tuple #[typeV (match (if rightC t = true then some t else none) with | none => ((([], [], []) : TypeC), (2 : Int)) | some t => (t, 0)).1 v, .int .i64 (match (if rightC t = true then some t else none) with | none => ((([], [], []) : TypeC), (2 : Int)) | some t => (t, 0)).2]) ∧ ParsAt w' w'.heap.size v (match (if rightC t = true then some t else none) with | none => ((([], [], []) : TypeC), (2 : Int)) | some t => (t, 0)).1.2.2 ∧ Below w.heap.size w w'
    rw [hP]
    obtain ⟨n, hn⟩ : ∃ n, t.2.2.length = n := ⟨_, rfl⟩
    rw [hn] at hrt2 hrg
    have HX := Lib.hid (And.intro hX (And.intro hY hn))
    unfold takeV at htk hrt2
    clear hrt hq hX hY hn
    cases hr : rightC t with
    | false =>
      rw [hr] at hrg hP
      have hP2 : P = (([], [], []), 2) := by rw [← hP]; rfl
      subst hP2
      show Calls _ _ _ _ fun e w' => ∃ v, e = .returned (.tuple #[.agg #[.string ⟨#[]⟩, .string ⟨#[]⟩, v], .int .i64 2]) ∧ ParsAt w' w'.heap.size v [] ∧ Below w.heap.size w w'
      clear hP hr
      go_enter Tryd.func12, Tryd.ntmps12
      go_wp2_with fail
      refine htk.mono ?_
      rintro e w2 ⟨rfl, h9⟩
      obtain rfl := h9.symm
      clear htk h9
      go_wp2_with fail
      refine hrt2.mono ?_
      rintro e w3 ⟨⟨ao, cap, rfl, ho⟩, q1⟩
      obtain ⟨w4, hw4⟩ : ∃ w4, w3.alloc (.cells #[.string X, .string Y, .slice ao n cap] 24) = w4 := ⟨_, rfl⟩
      have l4 : Below w3.heap.size w3 w4 := by rw [← hw4]; exact (Below.refl _ _).alloc (Nat.le_refl _) _
      have n4 : TypAt w4 w3.heap.size X Y ao n cap := by rw [← hw4]; exact typ_new w3 _ _ _ _ _
      have t3 : TypAt w3 w.heap.size ⟨#[]⟩ ⟨#[]⟩ none 0 0 := q1.heap T1.out.1 (by omega) (by omega)
      have B4 := Lib.hid (And.intro (t3.below l4) ((T1.out.2.trans (q1.below (by omega) (by omega))).trans (l4.mono (by have := q1.size; omega))))
      have hr4 := hrg.out w4 ao cap (((ParsOwn.at ho.out).below l4 (Nat.le_refl _)).up l4.size)
      obtain ⟨y0, y1, y2, _⟩ := n4.cells
      have hz4 : w.heap.size < w4.heap.size := by have := q1.size; have := l4.size; omega
      clear hrt2 q1 l4 n4 t3 T1 ho hrg
      go_wp2_with fail
      refine hr4.mono ?_
      rintro e w5 ⟨rfl, q1⟩
      have t5 := B4.out.1.below q1
      obtain ⟨c0, c1, c2, c3, c4, c5⟩ := t5.cells
      obtain ⟨k0, k1, k2, _⟩ := (t5.put ⟨#[]⟩ ⟨#[]⟩ none 0 0).cells
      have B := Lib.hid (below_putT (B4.out.2.trans (q1.mono (by omega))) (Nat.le_refl w.heap.size) (.string ⟨#[]⟩) (.string ⟨#[]⟩) (.slice none 0 0))
      clear hr4 q1 t5 B4
      go_wp2
      refine bodyPost_ret (v := .tuple #[.agg #[.string ⟨#[]⟩, .string ⟨#[]⟩, .slice none 0 0], .int .i64 2]) (by simp [results, Tryd.f12, go_sem, k0, k1, k2]) rfl ⟨_, rfl, ParsAt.nil _ _, B.out⟩
    | true =>
      rw [hr] at hrg hP
      have hP2 : P = (t, 0) := by rw [← hP]; rfl
      subst hP2
      show Calls _ _ _ _ fun e w' => ∃ v, e = .returned (.tuple #[typeV t v, .int .i64 0]) ∧ ParsAt w' w'.heap.size v t.2.2 ∧ Below w.heap.size w w'
      unfold typeV
      rw [HX.out.1, HX.out.2.1]
      clear hP hr
      go_enter Tryd.func12, Tryd.ntmps12
      go_wp2_with fail
      refine htk.mono ?_
      rintro e w2 ⟨rfl, h9⟩
      obtain rfl := h9.symm
      clear htk h9
      go_wp2_with fail
      refine hrt2.mono ?_
      rintro e w3 ⟨⟨ao, cap, rfl, ho⟩, q1⟩
      obtain ⟨w4, hw4⟩ : ∃ w4, w3.alloc (.cells #[.string X, .string Y, .slice ao n cap] 24) = w4 := ⟨_, rfl⟩
      have l4 : Below w3.heap.size w3 w4 := by rw [← hw4]; exact (Below.refl _ _).alloc (Nat.le_refl _) _
      have n4 : TypAt w4 w3.heap.size X Y ao n cap := by rw [← hw4]; exact typ_new w3 _ _ _ _ _
      have t3 : TypAt w3 w.heap.size ⟨#[]⟩ ⟨#[]⟩ none 0 0 := q1.heap T1.out.1 (by omega) (by omega)
      have o4 : ParsOwn w4 (w1.heap.size + 1) (.slice ao n cap) t.2.2 := own_below ho.out l4
      have B4 := Lib.hid (And.intro (And.intro (t3.below l4) n4) (And.intro ((T1.out.2.trans (q1.below (by omega) (by omega))).trans (l4.mono (by have := q1.size; omega))) o4))
      have hr4 := hrg.out w4 ao cap o4.at
      obtain ⟨y0, y1, y2, _⟩ := n4.cells
      have hz4 : w.heap.size < w4.heap.size := by have := q1.size; have := l4.size; omega
      clear hrt2 q1 l4 n4 t3 T1 ho hrg o4
      go_wp2_with fail
      refine hr4.mono ?_
      rintro e w5 ⟨rfl, q1⟩
      have t5 := B4.out.1.1.below q1
      obtain ⟨c0, c1, c2, c3, c4, c5⟩ := t5.cells
      obtain ⟨x0, x1, x2, _⟩ := (B4.out.1.2.below q1).cells
      obtain ⟨k0, k1, k2, _⟩ := (t5.put X Y ao n cap).cells
      have o5 := own_below B4.out.2.2 q1
      have B := Lib.hid (show Below w.heap.size w (((w5.setCell ⟨w.heap.size, 0, none⟩ (.string X)).setCell ⟨w.heap.size, 1, none⟩ (.string Y)).setCell ⟨w.heap.size, 2, none⟩ (.slice ao n cap)) ∧ ParsAt (((w5.setCell ⟨w.heap.size, 0, none⟩ (.string X)).setCell ⟨w.heap.size, 1, none⟩ (.string Y)).setCell ⟨w.heap.size, 2, none⟩ (.slice ao n cap)) (((w5.setCell ⟨w.heap.size, 0, none⟩ (.string X)).setCell ⟨w.heap.size, 1, none⟩ (.string Y)).setCell ⟨w.heap.size, 2, none⟩ (.slice ao n cap)).heap.size (.slice ao n cap) t.2.2 from
        ⟨below_putT (B4.out.2.1.trans (q1.mono (by omega))) (Nat.le_refl w.heap.size) _ _ _, (own_put (w := w) o5 (by omega) (.string X) (.string Y) (.slice ao n cap)).at⟩)
      clear hr4 q1 t5 B4 o5
      go_wp2
      refine bodyPost_ret (v := .tuple #[.agg #[.string X, .string Y, .slice ao n cap], .int .i64 0]) (by simp [results, Tryd.f12, go_sem, k0, k1, k2]) rfl ⟨_, rfl, B.out.2, B.out.1⟩
end Go.Proofs.YtafpifpgfpkckaaDoor
