/-
  Texts of this proof, put together: CtJ, QDev, MmA.
-/
import Derived.Test.YtjikghndoklajaaGreatDoorZ21
import Derived.Test.YtjikghndoklajaaGreatDoorZ29
import Derived.Test.YtjikghndoklajaaGreatDoorZ24
import Derived.Test.YtjikghndoklajaaGreatDoorZ25
namespace Go.Proofs.YtjikghndoklajaaGreatDoor
open Go.RowKit

def parseT (s : TextA) : TypeC × Int := match parseC s with
  | none => (([], [], []), 2)
  | some t => (t, 0)
theorem ctaker_any (S : ByteArray) (w : World) : Calls Tryz.prog 66 #[.string S] w fun e w' => e = .returned (takeV w.heap.size) ∧ w' = w.alloc (.cells #[.string S] 9) := by
  have hmf : ∀ (fn : Fn) (first cap : Array Value) (w : World), (Instr.makeFunc fn first cap).run Tryz.prog w = .ok (.func fn first cap) w := fun _ _ _ _ => rfl
  unfold takeV
  go_enter Tryz.func66, Tryz.ntmps66
  go_wp2
  go_ret
  exact ⟨rfl, rfl⟩

set_option maxRecDepth 100000 in
set_option maxHeartbeats 4000000 in
theorem cparse_own (S : ByteArray) (w : World) (hs : S.size ≤ 10000000) :
    Calls Tryz.prog 39 #[.string S] w fun e w' => ∃ v, e = .returned (.tuple #[typeV (parseT S.data.toList).1 v, .int .i64 (parseT S.data.toList).2]) ∧ ParsOwn w' w.heap.size v (parseT S.data.toList).1.2.2 ∧ Below w.heap.size w w' := by
  obtain ⟨w0, hw0⟩ : ∃ w0, w.alloc (.cells #[.string ⟨#[]⟩, .string ⟨#[]⟩, .slice none 0 0] 26) = w0 := ⟨_, rfl⟩
  have l0 : Below w.heap.size w w0 := by rw [← hw0]; exact (Below.refl _ _).alloc (Nat.le_refl _) _
  have z0 : w.heap.size < w0.heap.size := by rw [← hw0]; simp
  have t0 : TypAt w0 w.heap.size ⟨#[]⟩ ⟨#[]⟩ none 0 0 := by rw [← hw0]; exact typ_new w _ _ _ _ _
  have htk := ctaker_any S w0
  obtain ⟨w1, hw1⟩ : ∃ w1, w0.alloc (.cells #[.string S] 9) = w1 := ⟨_, rfl⟩
  rw [hw1] at htk
  have l1 : Below w0.heap.size w0 w1 := by rw [← hw1]; exact (Below.refl _ _).alloc (Nat.le_refl _) _
  have z1 : w0.heap.size < w1.heap.size := by rw [← hw1]; simp
  have xT : Boxed w1 w0.heap.size 9 (.string (textQ S.data.toList)) := by
    rw [show textQ S.data.toList = S from rfl, ← hw1]
    exact Boxed.new _ _ _
  have hrt := crdtype_any w0.heap.size S.data.toList w1 xT hs
  have T1 := Lib.hid (And.intro (t0.below l1) (l0.trans (l1.mono (by omega))))
  clear l0 t0 l1 xT
  unfold parseT parseC
  cases hq : readC S.data.toList with
  | none =>
    rw [hq] at hrt
    have hrt2 : Calls Tryz.prog 65 #[takeV w0.heap.size] w1 fun e w' => (∃ X Y ao n cap, e = .returned (.tuple #[.agg #[.string X, .string Y, .slice ao n cap], .bool false])) ∧ TakeK w0.heap.size w1.heap.size w1 w' := hrt
    show Calls _ _ _ _ fun e w' => ∃ v, e = .returned (.tuple #[.agg #[.string ⟨#[]⟩, .string ⟨#[]⟩, v], .int .i64 2]) ∧ ParsOwn w' w.heap.size v [] ∧ Below w.heap.size w w'
    unfold takeV at htk hrt2
    clear hrt hq
    go_enter Tryz.func39, Tryz.ntmps39
    go_wp2_with fail
    refine htk.mono ?_
    rintro e w2 ⟨rfl, h9⟩
    obtain rfl := h9.symm
    clear htk h9
    go_wp2_with fail
    refine hrt2.mono ?_
    rintro e w3 ⟨⟨X, Y, ao, n, cap, rfl⟩, q1⟩
    obtain ⟨w4, hw4⟩ : ∃ w4, w3.alloc (.cells #[.string X, .string Y, .slice ao n cap] 26) = w4 := ⟨_, rfl⟩
    have l4 : Below w3.heap.size w3 w4 := by rw [← hw4]; exact (Below.refl _ _).alloc (Nat.le_refl _) _
    have n4 : TypAt w4 w3.heap.size X Y ao n cap := by rw [← hw4]; exact typ_new w3 _ _ _ _ _
    have t3 : TypAt w3 w.heap.size ⟨#[]⟩ ⟨#[]⟩ none 0 0 := q1.heap T1.out.1 (by omega) (by omega)
    have t4 := t3.below l4
    obtain ⟨c0, c1, c2, c3, c4, c5⟩ := t4.cells
    obtain ⟨k0, k1, k2, _⟩ := (t4.put ⟨#[]⟩ ⟨#[]⟩ none 0 0).cells
    have B := Lib.hid (below_putT ((T1.out.2.trans (q1.below (by omega) (by omega))).trans (l4.mono (by have := q1.size; omega))) (Nat.le_refl w.heap.size) (.string ⟨#[]⟩) (.string ⟨#[]⟩) (.slice none 0 0))
    clear hrt2 q1 l4 n4 t3 t4 T1
    go_wp2
    refine bodyPost_ret (v := .tuple #[.agg #[.string ⟨#[]⟩, .string ⟨#[]⟩, .slice none 0 0], .int .i64 2]) (by simp [results, Tryz.f39, go_sem, k0, k1, k2]) rfl ⟨_, rfl, World.ownsRow_nil _ _ _ _, B.out⟩
  | some t =>
    rw [hq] at hrt
    obtain ⟨X, hX⟩ : ∃ X, textQ t.1 = X := ⟨_, rfl⟩
    obtain ⟨Y, hY⟩ : ∃ Y, textQ t.2.1 = Y := ⟨_, rfl⟩
    have hrt2 : Calls Tryz.prog 65 #[takeV w0.heap.size] w1 fun e w' => (∃ ao cap, e = .returned (.tuple #[.agg #[.string X, .string Y, .slice ao t.2.2.length cap], .bool true]) ∧ Hid (ParsOwn w' (w1.heap.size + 1) (.slice ao t.2.2.length cap) t.2.2)) ∧ TakeK w0.heap.size w1.heap.size w1 w' := hrt.mono fun e w' ⟨⟨ao, cap, h1, h2⟩, h3⟩ => ⟨⟨ao, cap, by rw [h1, ← hX, ← hY], Lib.hid h2⟩, h3⟩
    have hrg : Hid (∀ W ao cap, ParsAt W W.heap.size (.slice ao t.2.2.length cap) t.2.2 → Calls Tryz.prog 46 #[.agg #[.string X, .string Y, .slice ao t.2.2.length cap]] W fun e w' => e = .returned (.bool (rightC t)) ∧ Below W.heap.size W w') := Lib.hid fun W ao cap hW => by
      have := cright_any W.heap.size _ t W hW (Nat.le_refl _)
      unfold typeV at this
      rw [hX, hY] at this
      exact this
    simp only
    obtain ⟨P, hP⟩ : ∃ P : TypeC × Int, (match (if rightC t = true then some t else none) with | none => ((([], [], []) : TypeC), (2 : Int)) | some t => (t, 0)) = P := ⟨_, rfl⟩
    show Calls _ _ _ _ fun e w' => ∃ v, e = .returned (.tuple #[typeV (match (if rightC t = true then some t else none) with | none => ((([], [], []) : TypeC), (2 : Int)) | some t => (t, 0)).1 v, .int .i64 (match (if rightC t = true then some t else none) with | none => ((([], [], []) : TypeC), (2 : Int)) | some t => (t, 0)).2]) ∧ ParsOwn w' w.heap.size v (match (if rightC t = true then some t else none) with | none => ((([], [], []) : TypeC), (2 : Int)) | some t => (t, 0)).1.2.2 ∧ Below w.heap.size w w'
    rw [hP]
    obtain ⟨n, hn⟩ : ∃ n, t.2.2.length = n := ⟨_, rfl⟩
    rw [hn] at hrt2 hrg
    have HX := Lib.hid (And.intro hX (And.intro hY hn))
    unfold takeV at htk hrt2
    clear hrt hq hX hY hn
    cases hr : rightC t with
    | false =>
      rw [hr] at hrg hP
      have hP2 : P = (([], [], []), 2) := by rw [← hP]; rfl
      subst hP2
      show Calls _ _ _ _ fun e w' => ∃ v, e = .returned (.tuple #[.agg #[.string ⟨#[]⟩, .string ⟨#[]⟩, v], .int .i64 2]) ∧ ParsOwn w' w.heap.size v [] ∧ Below w.heap.size w w'
      clear hP hr
      go_enter Tryz.func39, Tryz.ntmps39
      go_wp2_with fail
      refine htk.mono ?_
      rintro e w2 ⟨rfl, h9⟩
      obtain rfl := h9.symm
      clear htk h9
      go_wp2_with fail
      refine hrt2.mono ?_
      rintro e w3 ⟨⟨ao, cap, rfl, ho⟩, q1⟩
      obtain ⟨w4, hw4⟩ : ∃ w4, w3.alloc (.cells #[.string X, .string Y, .slice ao n cap] 26) = w4 := ⟨_, rfl⟩
      have l4 : Below w3.heap.size w3 w4 := by rw [← hw4]; exact (Below.refl _ _).alloc (Nat.le_refl _) _
      have n4 : TypAt w4 w3.heap.size X Y ao n cap := by rw [← hw4]; exact typ_new w3 _ _ _ _ _
      have t3 : TypAt w3 w.heap.size ⟨#[]⟩ ⟨#[]⟩ none 0 0 := q1.heap T1.out.1 (by omega) (by omega)
      have B4 := Lib.hid (And.intro (t3.below l4) ((T1.out.2.trans (q1.below (by omega) (by omega))).trans (l4.mono (by have := q1.size; omega))))
      have hr4 := hrg.out w4 ao cap (((ParsOwn.at ho.out).below l4 (Nat.le_refl _)).up l4.size)
      obtain ⟨y0, y1, y2, _⟩ := n4.cells
      have hz4 : w.heap.size < w4.heap.size := by have := q1.size; have := l4.size; omega
      clear hrt2 q1 l4 n4 t3 T1 ho hrg
      go_wp2_with fail
      refine hr4.mono ?_
      rintro e w5 ⟨rfl, q1⟩
      have t5 := B4.out.1.below q1
      obtain ⟨c0, c1, c2, c3, c4, c5⟩ := t5.cells
      obtain ⟨k0, k1, k2, _⟩ := (t5.put ⟨#[]⟩ ⟨#[]⟩ none 0 0).cells
      have B := Lib.hid (below_putT (B4.out.2.trans (q1.mono (by omega))) (Nat.le_refl w.heap.size) (.string ⟨#[]⟩) (.string ⟨#[]⟩) (.slice none 0 0))
      clear hr4 q1 t5 B4
      go_wp2
      refine bodyPost_ret (v := .tuple #[.agg #[.string ⟨#[]⟩, .string ⟨#[]⟩, .slice none 0 0], .int .i64 2]) (by simp [results, Tryz.f39, go_sem, k0, k1, k2]) rfl ⟨_, rfl, World.ownsRow_nil _ _ _ _, B.out⟩
    | true =>
      rw [hr] at hrg hP
      have hP2 : P = (t, 0) := by rw [← hP]; rfl
      subst hP2
      show Calls _ _ _ _ fun e w' => ∃ v, e = .returned (.tuple #[typeV t v, .int .i64 0]) ∧ ParsOwn w' w.heap.size v t.2.2 ∧ Below w.heap.size w w'
      unfold typeV
      rw [HX.out.1, HX.out.2.1]
      clear hP hr
      go_enter Tryz.func39, Tryz.ntmps39
      go_wp2_with fail
      refine htk.mono ?_
      rintro e w2 ⟨rfl, h9⟩
      obtain rfl := h9.symm
      clear htk h9
      go_wp2_with fail
      refine hrt2.mono ?_
      rintro e w3 ⟨⟨ao, cap, rfl, ho⟩, q1⟩
      obtain ⟨w4, hw4⟩ : ∃ w4, w3.alloc (.cells #[.string X, .string Y, .slice ao n cap] 26) = w4 := ⟨_, rfl⟩
      have l4 : Below w3.heap.size w3 w4 := by rw [← hw4]; exact (Below.refl _ _).alloc (Nat.le_refl _) _
      have n4 : TypAt w4 w3.heap.size X Y ao n cap := by rw [← hw4]; exact typ_new w3 _ _ _ _ _
      have t3 : TypAt w3 w.heap.size ⟨#[]⟩ ⟨#[]⟩ none 0 0 := q1.heap T1.out.1 (by omega) (by omega)
      have o4 : ParsOwn w4 (w1.heap.size + 1) (.slice ao n cap) t.2.2 := own_below ho.out l4
      have B4 := Lib.hid (And.intro (And.intro (t3.below l4) n4) (And.intro ((T1.out.2.trans (q1.below (by omega) (by omega))).trans (l4.mono (by have := q1.size; omega))) o4))
      have hr4 := hrg.out w4 ao cap o4.at
      obtain ⟨y0, y1, y2, _⟩ := n4.cells
      have hz4 : w.heap.size < w4.heap.size := by have := q1.size; have := l4.size; omega
      clear hrt2 q1 l4 n4 t3 T1 ho hrg o4
      go_wp2_with fail
      refine hr4.mono ?_
      rintro e w5 ⟨rfl, q1⟩
      have t5 := B4.out.1.1.below q1
      obtain ⟨c0, c1, c2, c3, c4, c5⟩ := t5.cells
      obtain ⟨x0, x1, x2, _⟩ := (B4.out.1.2.below q1).cells
      obtain ⟨k0, k1, k2, _⟩ := (t5.put X Y ao n cap).cells
      have o5 := own_below B4.out.2.2 q1
      have B := Lib.hid (show Below w.heap.size w (((w5.setCell ⟨w.heap.size, 0, none⟩ (.string X)).setCell ⟨w.heap.size, 1, none⟩ (.string Y)).setCell ⟨w.heap.size, 2, none⟩ (.slice ao n cap)) ∧ ParsOwn (((w5.setCell ⟨w.heap.size, 0, none⟩ (.string X)).setCell ⟨w.heap.size, 1, none⟩ (.string Y)).setCell ⟨w.heap.size, 2, none⟩ (.slice ao n cap)) w.heap.size (.slice ao n cap) t.2.2 from
        ⟨below_putT (B4.out.2.1.trans (q1.mono (by omega))) (Nat.le_refl w.heap.size) _ _ _, own_low (own_put (w := w) o5 (by omega) (.string X) (.string Y) (.slice ao n cap)) (by omega)⟩)
      clear hr4 q1 t5 B4 o5
      go_wp2
      refine bodyPost_ret (v := .tuple #[.agg #[.string X, .string Y, .slice ao n cap], .int .i64 0]) (by simp [results, Tryz.f39, go_sem, k0, k1, k2]) rfl ⟨_, rfl, B.out.2, B.out.1⟩
end Go.Proofs.YtjikghndoklajaaGreatDoor
namespace Go.Proofs.YtjikghndoklajaaGreatDoor
open Go.RowKit

theorem decV4_none : decV4 none = .tuple #[.string ⟨#[]⟩, .int .i64 2] := rfl

theorem bound_below {m : Int} {w w' : World} (hm : w.cell? ⟨0, 0, none⟩ = some (.int .i64 m)) (hb : Below w.heap.size w w') : w'.cell? ⟨0, 0, none⟩ = some (.int .i64 m) := by
  have hlt : 0 < w.heap.size := by
    rcases Nat.lt_or_ge 0 w.heap.size with h | h
    · exact h
    · rw [World.cell?, Array.getElem?_eq_none h] at hm
      simp at hm
  exact (hb.cell (p := ⟨0, 0, none⟩) hlt).trans hm

set_option maxRecDepth 100000 in
set_option maxHeartbeats 4000000 in
theorem q4dec_any (s : ByteArray) (m : Int) (w : World) (hs : s.size ≤ 90000) (hm : w.cell? ⟨0, 0, none⟩ = some (.int .i64 m)) :
    Calls Tryz.prog 44 #[.string s] w fun e w' => e = .returned (decV4 (decQ s.data.toList)) ∧ Below w.heap.size w w' := by
  have hread := read_any s w (by omega)
  have hsl : s.data.toList.length = s.size := rfl
  have hd := read_dec s.data.toList
  cases hr : readQ s.data.toList with
  | none =>
    rw [hr] at hread hd
    rw [hd]
    unfold readV at hread
    clear hd hr hsl
    go_enter Tryz.func44, Tryz.ntmps44
    go_wp2_with fail
    refine hread.mono ?_
    rintro e w2 ⟨rfl, hw2⟩
    go_wp2
    go_ret2
    exact ⟨rfl, hw2⟩
  | some l =>
    have hlen := read_len hr
    rw [hsl] at hlen
    rw [hr] at hread hd
    rw [hd]
    unfold readV at hread
    obtain ⟨X, hX⟩ : ∃ X : ByteArray, (⟨l.toArray⟩ : ByteArray) = X := ⟨_, rfl⟩
    have hXl : X.data.toList = l := by rw [← hX]
    have hXs : X.size = l.length := by rw [← hX]; rfl
    simp only [hX] at hread
    have henc := fun W hW => q4enc_any X m W (by omega) hW
    rw [hXl] at henc
    obtain ⟨Y, hY⟩ : ∃ Y : ByteArray, (⟨(encQ l).toArray⟩ : ByteArray) = Y := ⟨_, rfl⟩
    have hYl : Y.data.toList = encQ l := by rw [← hY]
    rw [hY] at henc
    have Henc := Lib.hid henc
    by_cases e : encQ l = s.data.toList
    · have hne : Y = s := ByteArray.ext (Array.ext' (hYl.trans e))
      have hv : decV4 (some l) = .tuple #[.string X, .int .i64 0] := by rw [← hX]; rfl
      simp only [if_pos e, hv]
      subst hne
      clear hd hr hsl hX hXl hXs hY hYl e hlen henc hv
      go_enter Tryz.func44, Tryz.ntmps44
      go_wp2_with fail
      refine hread.mono ?_
      rintro e w2 ⟨rfl, hw2⟩
      have hm2 := bound_below hm hw2
      go_wp2_with fail
      refine (Henc.out _ hm2).mono ?_
      rintro e w3 ⟨rfl, hw3⟩
      go_wp2
      go_ret2
      exact ⟨rfl, hw2.trans (hw3.mono hw2.size)⟩
    · have hne : (Y.toList == s.toList) = false := bytes_ne4 (fun h => e (by rw [← hYl, h]))
      simp only [if_neg e, decV4_none]
      clear hd hr hsl hX hXl hXs hY hYl e hlen henc
      go_enter Tryz.func44, Tryz.ntmps44
      go_wp2_with fail
      refine hread.mono ?_
      rintro e w2 ⟨rfl, hw2⟩
      have hm2 := bound_below hm hw2
      go_wp2_with fail
      refine (Henc.out _ hm2).mono ?_
      rintro e w3 ⟨rfl, hw3⟩
      go_wp2
      go_ret2
      exact ⟨rfl, hw2.trans (hw3.mono hw2.size)⟩
end Go.Proofs.YtjikghndoklajaaGreatDoor
namespace Go.Proofs.YtjikghndoklajaaGreatDoor
open Go.RowKit

theorem get_small {M : Nat} {l : List FieldH} {n b : TextH} (hs : SmallF M l) (h : getH l n = some b) : b.length ≤ M := by
  unfold getH at h
  cases hf : l.find? (fun f => sameH f.1 n) with
  | none =>
    rw [hf] at h
    cases h
  | some f =>
    rw [hf] at h
    cases h
    exact (hs f (List.mem_of_find?_eq_some hf)).2
def typR (l : List FieldH) : TypeC × Int := match typM l with
  | none => (([], [], []), 2)
  | some t => (t, 0)

set_option maxRecDepth 100000 in
set_option maxHeartbeats 4000000 in
theorem mtypeof_any (B : Nat) (v : Value) (l : List FieldH) (w : World) (h : FieldsAt w B v l) (hB : B ≤ w.heap.size) (hsm : SmallF 1000000 l) :
    Calls Tryz.prog 23 #[v] w fun e w' => ∃ u, e = .returned (.tuple #[typeV (typR l).1 u, .int .i64 (typR l).2]) ∧ ParsOwn w' w.heap.size u (typR l).1.2.2 ∧ Below w.heap.size w w' := by
  obtain ⟨w0, hw0⟩ : ∃ w0, w.alloc (.cells #[.string ⟨#[]⟩, .string ⟨#[]⟩, .slice none 0 0] 26) = w0 := ⟨_, rfl⟩
  have l0 : Below w.heap.size w w0 := by rw [← hw0]; exact (Below.refl _ _).alloc (Nat.le_refl _) _
  have z0 : w.heap.size < w0.heap.size := by rw [← hw0]; simp
  have t0 : TypAt w0 w.heap.size ⟨#[]⟩ ⟨#[]⟩ none 0 0 := by rw [← hw0]; exact typ_new w _ _ _ _ _
  have hg := hget_any B v l ⟨#[67, 111, 110, 116, 101, 110, 116, 45, 84, 121, 112, 101]⟩ w0 (h.below l0 hB) (by omega) hsm (by decide)
  rw [show (⟨#[67, 111, 110, 116, 101, 110, 116, 45, 84, 121, 112, 101]⟩ : ByteArray).data.toList = ctM from rfl] at hg
  have T0 := Lib.hid (And.intro l0 t0)
  clear l0 t0 h
  cases hq : getH l ctM with
  | none =>
    rw [hq] at hg
    have hg2 : Calls Tryz.prog 38 #[v, .string ⟨#[67, 111, 110, 116, 101, 110, 116, 45, 84, 121, 112, 101]⟩] w0 fun e w' => e = .returned (.tuple #[.string ⟨#[]⟩, .bool false]) ∧ Below w0.heap.size w0 w' := hg
    have e : typR l = ((textM, plainM, []), 0) := by unfold typR typM; rw [hq]
    rw [e]
    show Calls _ _ _ _ fun e w' => ∃ u, e = .returned (.tuple #[.agg #[.string ⟨#[116, 101, 120, 116]⟩, .string ⟨#[112, 108, 97, 105, 110]⟩, u], .int .i64 0]) ∧ ParsOwn w' w.heap.size u [] ∧ Below w.heap.size w w'
    clear e hg hq hsm
    go_enter Tryz.func23, Tryz.ntmps23
    go_wp2_with fail
    refine hg2.mono ?_
    rintro e w1 ⟨rfl, hb⟩
    have t1 := T0.out.2.below hb
    obtain ⟨c0, c1, c2, c3, c4, c5⟩ := t1.cells
    obtain ⟨k0, k1, k2, _⟩ := (t1.put ⟨#[116, 101, 120, 116]⟩ ⟨#[112, 108, 97, 105, 110]⟩ none 0 0).cells
    have Bl := Lib.hid (below_putT (T0.out.1.trans (hb.mono (by omega))) (Nat.le_refl w.heap.size) (.string ⟨#[116, 101, 120, 116]⟩) (.string ⟨#[112, 108, 97, 105, 110]⟩) (.slice none 0 0))
    clear hg2 hb t1 T0
    go_wp2
    refine bodyPost_ret (v := .tuple #[.agg #[.string ⟨#[116, 101, 120, 116]⟩, .string ⟨#[112, 108, 97, 105, 110]⟩, .slice none 0 0], .int .i64 0]) (by simp [results, Tryz.f23, go_sem, k0, k1, k2]) rfl ⟨_, rfl, World.ownsRow_nil _ _ _ _, Bl.out⟩
  | some b =>
    rw [hq] at hg
    have hbl := get_small hsm hq
    obtain ⟨S, hS⟩ : ∃ S, textQ b = S := ⟨_, rfl⟩
    have hSs : S.size ≤ 10000000 := by rw [← hS]; show b.length ≤ _; omega
    have hSd : S.data.toList = b := by rw [← hS]; rfl
    have hg2 : Calls Tryz.prog 38 #[v, .string ⟨#[67, 111, 110, 116, 101, 110, 116, 45, 84, 121, 112, 101]⟩] w0 fun e w' => e = .returned (.tuple #[.string S, .bool true]) ∧ Below w0.heap.size w0 w' := by rw [← hS]; exact hg
    have e : typR l = parseT b := by
      unfold typR typM parseT
      rw [hq]
      all_goals (simp only)
      all_goals (cases parseC b <;> rfl)
    rw [e]
    have hcp : Hid (∀ W, Calls Tryz.prog 39 #[.string S] W fun e w' => ∃ ao cap, e = .returned (.tuple #[.agg #[.string (textQ (parseT b).1.1), .string (textQ (parseT b).1.2.1), .slice ao (parseT b).1.2.2.length cap], .int .i64 (parseT b).2]) ∧ ParsOwn w' W.heap.size (.slice ao (parseT b).1.2.2.length cap) (parseT b).1.2.2 ∧ Below W.heap.size W w') := Lib.hid fun W => by
      have := cparse_own S W hSs
      rw [hSd] at this
      refine this.mono fun e w' ⟨u, h1, h2, h3⟩ => ?_
      obtain ⟨ao, cap, rfl⟩ := own_slice h2
      exact ⟨ao, cap, h1, h2, h3⟩
    unfold typeV
    obtain ⟨P, hP⟩ : ∃ P, parseT b = P := ⟨_, rfl⟩
    rw [hP] at hcp ⊢
    obtain ⟨X, hX⟩ : ∃ X, textQ P.1.1 = X := ⟨_, rfl⟩
    obtain ⟨Y, hY⟩ : ∃ Y, textQ P.1.2.1 = Y := ⟨_, rfl⟩
    obtain ⟨c, hc⟩ : ∃ c, P.2 = c := ⟨_, rfl⟩
    obtain ⟨n, hn⟩ : ∃ n, P.1.2.2.length = n := ⟨_, rfl⟩
    rw [hX, hY, hc, hn] at hcp
    rw [hX, hY, hc]
    clear e hg hq hsm hbl hS hSd hP hX hY hc hn hSs
    go_enter Tryz.func23, Tryz.ntmps23
    go_wp2_with fail
    refine hg2.mono ?_
    rintro e w1 ⟨rfl, hb⟩
    have T1 := Lib.hid (And.intro (T0.out.1.trans (hb.mono (by omega))) (T0.out.2.below hb))
    have z1 : w.heap.size < w1.heap.size := by have := hb.size; omega
    have hc1 := hcp.out w1
    clear hg2 hb T0 hcp
    go_wp2_with fail
    refine hc1.mono ?_
    rintro e w2 ⟨ao, cap, rfl, ho, hb⟩
    have t2 := T1.out.2.below hb
    obtain ⟨c0, c1, c2, c3, c4, c5⟩ := t2.cells
    obtain ⟨k0, k1, k2, _⟩ := (t2.put X Y ao n cap).cells
    have Bl := Lib.hid (show Below w.heap.size w (((w2.setCell ⟨w.heap.size, 0, none⟩ (.string X)).setCell ⟨w.heap.size, 1, none⟩ (.string Y)).setCell ⟨w.heap.size, 2, none⟩ (.slice ao n cap)) ∧ ParsOwn (((w2.setCell ⟨w.heap.size, 0, none⟩ (.string X)).setCell ⟨w.heap.size, 1, none⟩ (.string Y)).setCell ⟨w.heap.size, 2, none⟩ (.slice ao n cap)) w.heap.size (.slice ao n cap) P.1.2.2 from
      ⟨below_putT (T1.out.1.trans (hb.mono (by omega))) (Nat.le_refl w.heap.size) _ _ _, own_low (own_put (w := w) ho z1 (.string X) (.string Y) (.slice ao n cap)) (by omega)⟩)
    clear hc1 hb t2 T1 ho
    go_wp2
    refine bodyPost_ret (v := .tuple #[.agg #[.string X, .string Y, .slice ao n cap], .int .i64 c]) (by simp [results, Tryz.f23, go_sem, k0, k1, k2]) rfl ⟨_, rfl, Bl.out.2, Bl.out.1⟩

def codesM : List TextH := [bit7M, bit8M, base64M, quotedM]
def codT (l : List FieldH) : Option TextH := match getH l cteM with
  | none => some bit7M
  | some c => codesM.find? (sameH c)
theorem cod_t (l : List FieldH) : codM l = (match codT l with
  | none => 3
  | some c => if c = base64M then 1 else if c = quotedM then 2 else 0) := by
  unfold codM codT
  cases getH l cteM with
  | none => rfl
  | some c =>
    simp only [codesM]
    cases h1 : sameH c bit7M with
    | true =>
      rw [List.find?_cons, h1]
      rfl
    | false =>
      cases h2 : sameH c bit8M with
      | true =>
        rw [List.find?_cons, h1, List.find?_cons, h2]
        rfl
      | false =>
        cases h3 : sameH c base64M with
        | true =>
          rw [List.find?_cons, h1, List.find?_cons, h2, List.find?_cons, h3]
          rfl
        | false =>
          cases h4 : sameH c quotedM with
          | true =>
            rw [List.find?_cons, h1, List.find?_cons, h2, List.find?_cons, h3, List.find?_cons, h4]
            rfl
          | false =>
            rw [List.find?_cons, h1, List.find?_cons, h2, List.find?_cons, h3, List.find?_cons, h4]
            rfl
theorem find_at {p : TextH → Bool} : ∀ {l : List TextH} {i : Nat} (h : i < l.length), p l[i] = true → (∀ j (hj : j < l.length), j < i → p l[j] = false) → l.find? p = some l[i]
  | a :: l, 0, _, h, _ => by
    rw [List.find?_cons, show p a = true from h]
    rfl
  | a :: l, i + 1, hi, h, hb => by
    rw [List.find?_cons, show p a = false from hb 0 (by simp) (by omega)]
    exact find_at (l := l) (i := i) (by simpa using hi) h (fun j hj h2 => hb (j + 1) (by simpa using hj) (by omega))
theorem find_not {p : TextH → Bool} {l : List TextH} (h : ∀ j (hj : j < l.length), p l[j] = false) : l.find? p = none := by
  rw [List.find?_eq_none]
  intro x hx
  obtain ⟨j, hj, rfl⟩ := List.mem_iff_getElem.1 hx
  rw [h j hj]
  decide
theorem codes_len : ∀ i (hi : i < codesM.length), codesM[i].length ≤ 100
  | 0, _ => show bit7M.length ≤ 100 by decide
  | 1, _ => show bit8M.length ≤ 100 by decide
  | 2, _ => show base64M.length ≤ 100 by decide
  | 3, _ => show quotedM.length ≤ 100 by decide
def codV (o : Option TextH) : Value := match o with
  | none => .tuple #[.string ⟨#[]⟩, .int .i64 2]
  | some c => .tuple #[.string (textQ c), .int .i64 0]

set_option maxRecDepth 100000 in
set_option maxHeartbeats 4000000 in
theorem mcodof_any (B : Nat) (v : Value) (l : List FieldH) (w : World) (h : FieldsAt w B v l) (hB : B ≤ w.heap.size) (hsm : SmallF 1000000 l) :
    Calls Tryz.prog 24 #[v] w fun e w' => e = .returned (codV (codT l)) ∧ Below w.heap.size w w' := by
  have hg := hget_any B v l ⟨#[67, 111, 110, 116, 101, 110, 116, 45, 84, 114, 97, 110, 115, 102, 101, 114, 45, 69, 110, 99, 111, 100, 105, 110, 103]⟩ w h hB hsm (by decide)
  rw [show (⟨#[67, 111, 110, 116, 101, 110, 116, 45, 84, 114, 97, 110, 115, 102, 101, 114, 45, 69, 110, 99, 111, 100, 105, 110, 103]⟩ : ByteArray).data.toList = cteM from rfl] at hg
  cases hq : getH l cteM with
  | none =>
    rw [hq] at hg
    have hg2 : Calls Tryz.prog 38 #[v, .string ⟨#[67, 111, 110, 116, 101, 110, 116, 45, 84, 114, 97, 110, 115, 102, 101, 114, 45, 69, 110, 99, 111, 100, 105, 110, 103]⟩] w fun e w' => e = .returned (.tuple #[.string ⟨#[]⟩, .bool false]) ∧ Below w.heap.size w w' := hg
    have e : codV (codT l) = .tuple #[.string ⟨#[55, 98, 105, 116]⟩, .int .i64 0] := by unfold codT; rw [hq]; rfl
    rw [e]
    clear e hg hq hsm h
    go_enter Tryz.func24, Tryz.ntmps24
    go_wp2_with fail
    refine hg2.mono ?_
    rintro e w1 ⟨rfl, hb⟩
    clear hg2
    go_wp2
    go_ret2
    exact ⟨rfl, hb⟩
  | some b =>
    rw [hq] at hg
    have hbl := get_small hsm hq
    obtain ⟨S, hS⟩ : ∃ S, textQ b = S := ⟨_, rfl⟩
    have hSs : S.size ≤ 1000000 := by rw [← hS]; show b.length ≤ _; omega
    have hSd : S.data.toList = b := by rw [← hS]; rfl
    have hg2 : Calls Tryz.prog 38 #[v, .string ⟨#[67, 111, 110, 116, 101, 110, 116, 45, 84, 114, 97, 110, 115, 102, 101, 114, 45, 69, 110, 99, 111, 100, 105, 110, 103]⟩] w fun e w' => e = .returned (.tuple #[.string S, .bool true]) ∧ Below w.heap.size w w' := by rw [← hS]; exact hg
    obtain ⟨R, hR⟩ : ∃ R, codV (codT l) = R := ⟨_, rfl⟩
    have HNo : Hid ((∀ j (hj : j < codesM.length), sameH b codesM[j] = false) → R = .tuple #[.string ⟨#[]⟩, .int .i64 2]) := Lib.hid fun hn => by
      rw [← hR]
      unfold codT
      rw [hq]
      simp only
      rw [find_not hn]
      rfl
    have HYes : Hid (∀ i (hi : i < codesM.length), sameH b codesM[i] = true → (∀ j (hj : j < codesM.length), j < i → sameH b codesM[j] = false) → R = .tuple #[.string (textQ codesM[i]), .int .i64 0]) := Lib.hid fun i hi h1 h2 => by
      rw [← hR]
      unfold codT
      rw [hq]
      simp only
      rw [find_at hi h1 h2]
      rfl
    have hsame : Hid (∀ (c : TextH) W, c.length ≤ 100 → Calls Tryz.prog 40 #[.string S, .string (textQ c)] W fun e w' => e = .returned (.bool (sameH b c)) ∧ Below W.heap.size W w') := Lib.hid fun c W hc => by
      have := hsame_any S (textQ c) W hSs (by show c.length ≤ _; omega)
      rw [hSd] at this
      exact this
    rw [hR]
    clear hR hg hq hsm hbl hS hSd h hSs
    go_enter Tryz.func24, Tryz.ntmps24
    go_wp2_with fail
    refine hg2.mono ?_
    rintro e w1 ⟨rfl, hb⟩
    obtain ⟨w2, hw2⟩ : ∃ w2, w1.alloc (.cells #[.string ⟨#[55, 98, 105, 116]⟩, .string ⟨#[56, 98, 105, 116]⟩, .string ⟨#[98, 97, 115, 101, 54, 52]⟩, .string ⟨#[113, 117, 111, 116, 101, 100, 45, 112, 114, 105, 110, 116, 97, 98, 108, 101]⟩] 9) = w2 := ⟨_, rfl⟩
    have hcells : Hid (∀ i (hi : i < codesM.length), w2.cell? ⟨w1.heap.size, i, none⟩ = some (.string (textQ codesM[i]))) := Lib.hid fun i hi => by
      rw [← hw2, Lib.cell_of_heap (heap_alloc_new w1 _) i]
      match i, hi with
      | 0, _ => rfl
      | 1, _ => rfl
      | 2, _ => rfl
      | 3, _ => rfl
    have b2 : Below w.heap.size w w2 := by rw [← hw2]; exact hb.alloc hb.size _
    have z2 : w1.heap.size < w2.heap.size := by rw [← hw2]; simp
    have B2 := Lib.hid b2
    clear hg2 hb b2
    go_wp2
    go_loopw [17] (fun iv wr => ∃ i : Nat, i ≤ 4 ∧ iv = .int .i64 i ∧ Hid (∀ j (hj : j < codesM.length), j < i → sameH b codesM[j] = false) ∧ Below w2.heap.size w2 wr) (fun iv _ => 4 - (intOf iv).toNat)
    case atStart => exact ⟨0, by omega, rfl, Lib.hid (fun j _ h => by omega), Below.refl _ _⟩
    case round =>
      obtain ⟨i, hi, rfl, hno, hbr⟩ := hrel
      by_cases hlt : i < 4
      · have hil : i < codesM.length := hlt
        have z0 := (hbr.cell (p := ⟨w1.heap.size, i, none⟩) (by show w1.heap.size < _; omega)).trans (hcells.out i hil)
        have hcl := codes_len i hil
        have hcall := hsame.out codesM[i] wr hcl
        have hyes : Hid (sameH b codesM[i] = true → R = .tuple #[.string (textQ codesM[i]), .int .i64 0]) := Lib.hid fun h => HYes.out i hil h hno.out
        have hnx : Hid (sameH b codesM[i] = false → ∀ j (hj : j < codesM.length), j < i + 1 → sameH b codesM[j] = false) := Lib.hid fun h j hj h3 => by
          rcases Nat.lt_or_ge j i with h4 | h4
          · exact hno.out j hj h4
          · obtain rfl : j = i := by omega
            exact h
        obtain ⟨c, hc⟩ : ∃ c, codesM[i] = c := ⟨_, rfl⟩
        rw [hc] at z0 hcall hyes hnx
        obtain ⟨C, hC⟩ : ∃ C, textQ c = C := ⟨_, rfl⟩
        rw [hC] at z0 hcall hyes
        clear hC hc hcl hno
        cases hs : sameH b c with
        | true =>
          rw [hs] at hcall
          have Hr := Lib.hid (hyes.out hs)
          clear hyes hnx hs
          go_wp2_with fail
          refine hcall.mono ?_
          rintro e w3 ⟨rfl, hb3⟩
          have hb9 := Lib.hid ((B2.out.trans (hbr.mono B2.out.size)).trans (hb3.mono (Nat.le_trans B2.out.size hbr.size)))
          clear hcall hb3
          go_wp2
          go_ret2
          exact ⟨by rw [Hr.out]; rfl, hb9.out⟩
        | false =>
          rw [hs] at hcall
          have Hr := Lib.hid (hnx.out hs)
          clear hyes hnx hs
          go_wp2_with fail
          refine hcall.mono ?_
          rintro e w3 ⟨rfl, hb3⟩
          have hb9 := hbr.trans (hb3.mono hbr.size)
          clear hcall hb3
          go_wp2
          go_roundw
          case rel => exact ⟨i + 1, by omega, by go_num, Hr, hb9⟩
          case measure => simp [intOf]; omega
      · obtain rfl : i = 4 := by omega
        have Hr := Lib.hid (HNo.out fun j hj => hno.out j hj hj)
        have hb9 := Lib.hid (B2.out.trans (hbr.mono B2.out.size))
        clear hno
        go_wp2
        go_ret2
        exact ⟨by rw [Hr.out]; rfl, hb9.out⟩

def leafT (c raw : TextH) : Option TextH := if c = base64M then unfoldB raw else if c = quotedM then decQ raw else some raw
set_option maxRecDepth 100000 in
set_option maxHeartbeats 4000000 in
theorem mdecode_any (raw : ByteArray) (c : TextH) (m : Int) (w : World) (hs : raw.size ≤ 90000) (hm : w.cell? ⟨0, 0, none⟩ = some (.int .i64 m)) :
    Calls Tryz.prog 26 #[.string raw, .string (textQ c)] w fun e w' => e = .returned (decV (leafT c raw.data.toList)) ∧ Below w.heap.size w w' := by
  obtain ⟨C, hC⟩ : ∃ C, textQ c = C := ⟨_, rfl⟩
  have hCl : C.toList = c := by rw [← hC, Lib.toList_data]; rfl
  rw [hC]
  unfold leafT
  by_cases h1 : c = base64M
  · rw [if_pos h1]
    have g1 : (C.toList == [98, 97, 115, 101, 54, 52]) = true := by rw [hCl, h1]; rfl
    have hu := unfold_any raw m w (by omega) hm
    obtain ⟨V, hV⟩ : ∃ V, decV (unfoldB raw.data.toList) = V := ⟨_, rfl⟩
    have hV2 : ∃ X k, V = .tuple #[.string X, .int .i64 k] := by
      rw [← hV]
      cases unfoldB raw.data.toList <;> exact ⟨_, _, rfl⟩
    rw [hV] at hu ⊢
    obtain ⟨X, k, rfl⟩ := hV2
    clear hV h1 hCl hC
    go_enter Tryz.func26, Tryz.ntmps26
    go_wp2_with (go_at_call 43; refine hu.mono ?_; rintro e w1 ⟨rfl, hb⟩)
    go_ret2
    exact ⟨rfl, hb⟩
  · rw [if_neg h1]
    have g1 : (C.toList == [98, 97, 115, 101, 54, 52]) = false := by rw [hCl]; exact beq_eq_false_iff_ne.2 h1
    by_cases h2 : c = quotedM
    · rw [if_pos h2]
      have g2 : (C.toList == [113, 117, 111, 116, 101, 100, 45, 112, 114, 105, 110, 116, 97, 98, 108, 101]) = true := by rw [hCl, h2]; rfl
      have hu := q4dec_any raw m w (by omega) hm
      have e4 : ∀ o, decV4 o = decV o := fun o => by cases o <;> rfl
      simp only [e4] at hu
      obtain ⟨V, hV⟩ : ∃ V, decV (decQ raw.data.toList) = V := ⟨_, rfl⟩
      have hV2 : ∃ X k, V = .tuple #[.string X, .int .i64 k] := by
        rw [← hV]
        cases decQ raw.data.toList <;> exact ⟨_, _, rfl⟩
      rw [hV] at hu ⊢
      obtain ⟨X, k, rfl⟩ := hV2
      clear hV h1 h2 hCl hC
      go_enter Tryz.func26, Tryz.ntmps26
      go_wp2_with (go_at_call 44; refine hu.mono ?_; rintro e w1 ⟨rfl, hb⟩)
      go_ret2
      exact ⟨rfl, hb⟩
    · rw [if_neg h2]
      have g2 : (C.toList == [113, 117, 111, 116, 101, 100, 45, 112, 114, 105, 110, 116, 97, 98, 108, 101]) = false := by rw [hCl]; exact beq_eq_false_iff_ne.2 h2
      show Calls _ _ _ _ fun e w' => e = .returned (.tuple #[.string raw, .int .i64 0]) ∧ Below w.heap.size w w'
      clear h1 h2 hCl hC
      go_enter Tryz.func26, Tryz.ntmps26
      go_wp2
      go_ret2
      exact ⟨rfl, Below.refl _ _⟩
end Go.Proofs.YtjikghndoklajaaGreatDoor
