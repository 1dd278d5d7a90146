/-
  What addr.rightDotted, rightName and Right come to.
-/
import Derived.Test.YtemkikpdmihmpaaDoorAdC
namespace Go.Proofs.YtemkikpdmihmpaaDoor
open Go.RowKit

set_option maxRecDepth 100000 in
set_option maxHeartbeats 2000000 in
theorem ardot_any (g : Nat) (eg : ∀ args w, (callFunc g args).run Tryd.prog w = .ok (.enter g args) w) (p : UInt8 → Bool) (hask : ∀ W, AskA g #[] p W) (s : ByteArray) (w : World) :
    Calls Tryd.prog 28 #[.string s, .func (.func g) #[] #[]] w fun e w' => e = .returned (.bool (dottedA p s.data.toList)) ∧ Below w.heap.size w w' := by
  unfold dottedA
  rw [show s.data.toList.length = s.size from rfl]
  by_cases h : s.size ≤ 64
  · rw [decide_eq_true h, Bool.true_and]
    have hj := ajoined_any g eg p hask s 46 w (by omega)
    go_enter Tryd.func28, Tryd.ntmps28
    go_wp2_with (go_at_call 43; refine hj.mono ?_; rintro e w1 ⟨rfl, hw1⟩)
    go_ret
    exact ⟨rfl, hw1⟩
  · rw [decide_eq_false h, Bool.false_and]
    go_enter Tryd.func28, Tryd.ntmps28
    go_wp2
    go_ret
    exact ⟨rfl, Below.refl _ _⟩
theorem all_drop (p : UInt8 → Bool) : ∀ r : TextA, r.all p = (r.dropWhile p).isEmpty
  | [] => rfl
  | d :: r => by
    rw [List.all_cons, List.dropWhile_cons]
    cases hd : p d with
    | true => rw [Bool.true_and, all_drop p r, if_pos rfl]
    | false => rfl
set_option maxRecDepth 100000 in
set_option maxHeartbeats 2000000 in
theorem arname_any (s : ByteArray) (w : World) : Calls Tryd.prog 27 #[.string s] w fun e w' => e = .returned (.bool (nameA s.data.toList)) ∧ Below w.heap.size w w' := by
  unfold nameA
  rw [show s.data.toList.length = s.size from rfl]
  by_cases h : s.size ≤ 64
  · rw [decide_eq_true h, Bool.true_and]
    have ht := Tryd.strings_Trim_one s 32 (by decide) w (by omega)
    obtain ⟨X, hX⟩ : ∃ X : ByteArray, (⟨(Lib.trimB s.data.toList 32).toArray⟩ : ByteArray) = X := ⟨_, rfl⟩
    have he : (X.toList == s.toList) = (Lib.trimB s.data.toList 32 == s.data.toList) := by
      rw [← hX, Lib.toList_data, Lib.toList_data]
    rw [hX] at ht
    rw [← he]
    have ht2 : Calls Tryd.prog 40 #[.string s, .string ⟨#[32]⟩] w fun e w' => e = .returned (.string X) ∧ Below w.heap.size w w' := by
      refine ht.mono ?_
      rintro e w' ⟨rfl, rfl | rfl⟩
      · exact ⟨rfl, Below.refl _ _⟩
      · exact ⟨rfl, (Below.refl _ _).drew⟩
    clear ht hX he
    cases hq : (X.toList == s.toList) with
    | false =>
      go_enter Tryd.func27, Tryd.ntmps27
      go_wp2_with (go_at_call 40; refine ht2.mono ?_; rintro e w1 ⟨rfl, hw1⟩)
      go_ret
      exact ⟨rfl, hw1⟩
    | true =>
      rw [Bool.true_and, all_drop]
      have hc := fun W => acutrun_any 42 #[] enter_name nameCA s W (ask_name W) (by omega)
      obtain ⟨U, hU⟩ : ∃ U, textQ (s.data.toList.takeWhile nameCA) = U := ⟨_, rfl⟩
      obtain ⟨V, hV⟩ : ∃ V, textQ (s.data.toList.dropWhile nameCA) = V := ⟨_, rfl⟩
      have eV : (s.data.toList.dropWhile nameCA).isEmpty = V.toList.isEmpty := by rw [← hV, text_empty]
      simp only [hU, hV] at hc
      rw [eV]
      clear hU hV eV
      go_enter Tryd.func27, Tryd.ntmps27
      go_wp2_with (first | (go_at_call 40; refine ht2.mono ?_; rintro e w1 ⟨rfl, hw1⟩) | (go_at_call 41; refine (hc _).mono ?_; rintro e w2 ⟨rfl, hw2⟩))
      go_ret
      exact ⟨rfl, hw1.trans (hw2.mono hw1.size)⟩
  · rw [decide_eq_false h, Bool.false_and]
    go_enter Tryd.func27, Tryd.ntmps27
    go_wp2
    go_ret
    exact ⟨rfl, Below.refl _ _⟩

/-- An address, as a value. -/
def addrV (a : AddrA) : Value := .agg #[.string (textQ a.1), .string (textQ a.2.1), .string (textQ a.2.2)]

set_option maxRecDepth 100000 in
set_option maxHeartbeats 4000000 in
theorem aright_any (a : AddrA) (w : World) : Calls Tryd.prog 14 #[addrV a] w fun e w' => e = .returned (.bool (rightA a)) ∧ Below w.heap.size w w' := by
  unfold rightA addrV
  obtain ⟨X, hX⟩ : ∃ X, textQ a.1 = X := ⟨_, rfl⟩
  obtain ⟨Y, hY⟩ : ∃ Y, textQ a.2.1 = Y := ⟨_, rfl⟩
  obtain ⟨Z, hZ⟩ : ∃ Z, textQ a.2.2 = Z := ⟨_, rfl⟩
  have h1 := fun W => arname_any X W
  have h2 := fun W => ardot_any 29 enter_atom atomC ask_atom Y W
  have h3 := fun W => ardot_any 30 enter_dom domC ask_dom Z W
  rw [show X.data.toList = a.1 by rw [← hX]; rfl] at h1
  rw [show Y.data.toList = a.2.1 by rw [← hY]; rfl] at h2
  rw [show Z.data.toList = a.2.2 by rw [← hZ]; rfl] at h3
  rw [hX, hY, hZ]
  obtain ⟨w0, hw0⟩ : ∃ w0, w.alloc (.cells #[.string X, .string Y, .string Z] 37) = w0 := ⟨_, rfl⟩
  have b0 : Below w.heap.size w w0 := by rw [← hw0]; exact (Below.refl _ _).alloc (Nat.le_refl _) _
  have z0 : w.heap.size < w0.heap.size := by rw [← hw0]; simp
  have hh : w0.heap[w.heap.size]? = some (.cells #[.string X, .string Y, .string Z] 37 (0, 0)) := by rw [← hw0]; exact heap_alloc_new w _
  have hc : ∀ W, Below w0.heap.size w0 W → W.cell? ⟨w.heap.size, 0, none⟩ = some (.string X) ∧ W.cell? ⟨w.heap.size, 1, none⟩ = some (.string Y) ∧ W.cell? ⟨w.heap.size, 2, none⟩ = some (.string Z) := fun W hW =>
    have h9 := (hW.block _ z0).trans hh
    ⟨Lib.cell_of_heap h9 0, Lib.cell_of_heap h9 1, Lib.cell_of_heap h9 2⟩
  have HC := Lib.hid hc
  obtain ⟨c0, c1, c2⟩ := hc w0 (Below.refl _ _)
  clear hX hY hZ hh hc
  cases q1 : nameA a.1 with
  | false =>
    rw [q1] at h1
    go_enter Tryd.func14, Tryd.ntmps14
    go_wp2_with (go_at_call 27; refine (h1 _).mono ?_; rintro e w1 ⟨rfl, hw1⟩)
    go_ret
    exact ⟨rfl, b0.trans (hw1.mono b0.size)⟩
  | true =>
    rw [q1] at h1
    cases q2 : dottedA atomC a.2.1 with
    | false =>
      rw [q2] at h2
      go_enter Tryd.func14, Tryd.ntmps14
      go_wp2_with (first | (go_at_call 27; refine (h1 _).mono ?_; rintro e w1 ⟨rfl, hw1⟩; obtain ⟨d0, d1, d2⟩ := HC.out w1 hw1) | (go_at_call 28; refine (h2 _).mono ?_; rintro e w2 ⟨rfl, hw2⟩))
      go_ret
      exact ⟨rfl, b0.trans ((hw1.trans (hw2.mono hw1.size)).mono b0.size)⟩
    | true =>
      rw [q2] at h2
      go_enter Tryd.func14, Tryd.ntmps14
      go_wp2_with fail
      refine (h1 _).mono ?_
      rintro e w1 ⟨rfl, hw1⟩
      obtain ⟨d0, d1, d2⟩ := HC.out w1 hw1
      have g0 := Lib.hid hw1
      clear hw1
      go_wp2_with fail
      refine (h2 _).mono ?_
      rintro e w2 ⟨rfl, hw2⟩
      obtain ⟨d3, d4, d5⟩ := HC.out w2 (g0.out.trans (hw2.mono g0.out.size))
      have g1 := Lib.hid (g0.out.trans (hw2.mono g0.out.size))
      clear hw2
      go_wp2_with fail
      refine (h3 _).mono ?_
      rintro e w3 ⟨rfl, hw3⟩
      go_wp2
      go_ret
      exact ⟨rfl, b0.trans ((g1.out.trans (hw3.mono g1.out.size)).mono b0.size)⟩
end Go.Proofs.YtemkikpdmihmpaaDoor
