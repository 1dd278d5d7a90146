/-
  What words.Decode comes to: told by the plain function.
-/
import Derived.Test.YtjkcjbbkplonkaaDoorW5X
import Derived.Test.YtjkcjbbkplonkaaDoorW5P
namespace Go.Proofs.YtjkcjbbkplonkaaDoor
open Go.RowKit

theorem bound_belowW {m : Int} {w w' : World} (hm : w.cell? ⟨0, 0, none⟩ = some (.int .i64 m)) (hb : Below w.heap.size w w') : w'.cell? ⟨0, 0, none⟩ = some (.int .i64 m) := by
  have hlt : 0 < w.heap.size := by
    rcases Nat.lt_or_ge 0 w.heap.size with h | h
    · exact h
    · rw [World.cell?, Array.getElem?_eq_none h] at hm
      simp at hm
  exact (hb.cell (p := ⟨0, 0, none⟩) hlt).trans hm

set_option maxRecDepth 100000 in
set_option maxHeartbeats 2000000 in
theorem wdec_any (s : ByteArray) (m : Int) (w : World) (hs : s.size ≤ 100000) (hm : w.cell? ⟨0, 0, none⟩ = some (.int .i64 m)) :
    Calls Tryd.prog 8 #[.string s] w fun e w' => e = .returned (decV (decW s.data.toList)) ∧ Below w.heap.size w w' := by
  have hpl := wplain_any s m w (by omega) hm
  cases hp : plainW s.data.toList with
  | true =>
    have he : decV (decW s.data.toList) = .tuple #[.string s, .int .i64 0] := by
      unfold decW
      rw [if_pos hp]
      rfl
    rw [he]
    rw [hp] at hpl
    clear he hp
    go_enter Tryd.func8, Tryd.ntmps8
    go_wp2_with (go_at_call 12; refine hpl.mono ?_; rintro e w1 ⟨rfl, rfl⟩)
    go_ret2
    exact ⟨rfl, Below.refl _ _⟩
  | false =>
    rw [hp] at hpl
    have hrd := wread_words s w hs
    cases hr : readW (splitB 32 s.data.toList) with
    | none =>
      have he : decV (decW s.data.toList) = .tuple #[.string ⟨#[]⟩, .int .i64 2] := by
        unfold decW
        rw [hp, hr]
        rfl
      rw [he]
      rw [hr] at hrd
      unfold rwV at hrd
      simp only at hrd
      clear he hp hr
      go_enter Tryd.func8, Tryd.ntmps8
      go_wp2_with (first | (go_at_call 12; refine hpl.mono ?_; rintro e w1 ⟨rfl, rfl⟩) | (go_at_call 14; refine hrd.mono ?_; rintro e w1 ⟨rfl, l1⟩))
      go_ret2
      exact ⟨rfl, l1⟩
    | some be =>
      obtain ⟨b, f⟩ := be
      rw [hr] at hrd
      unfold rwV at hrd
      simp only at hrd
      have hbl := read_len' _ [] b false f hr
      have hsl := split_len 32 s.data.toList
      rw [show s.data.toList.length = s.size from rfl] at hsl
      obtain ⟨X, hX⟩ : ∃ X : ByteArray, (⟨b.toArray⟩ : ByteArray) = X := ⟨_, rfl⟩
      have hXd : X.data.toList = b := by rw [← hX]
      have hXs : X.size ≤ 100000 := by
        have e : X.size = X.data.toList.length := rfl
        rw [e, hXd]
        simp at hbl
        omega
      rw [hX] at hrd
      have hpx := fun W hW => wplain_any X m W (by omega) hW
      rw [hXd] at hpx
      cases hq : plainW b with
      | true =>
        have he : decV (decW s.data.toList) = .tuple #[.string ⟨#[]⟩, .int .i64 2] := by
          unfold decW
          rw [hp, hr]
          simp only [hq]
          rfl
        rw [he]
        rw [hq] at hpx
        have Hpx := Lib.hid hpx
        clear he hp hr hbl hsl hX hXd hq hpx
        go_enter Tryd.func8, Tryd.ntmps8
        go_wp2_with (first | (go_at_call 12; refine hpl.mono ?_; rintro e w1 ⟨rfl, rfl⟩) | (go_at_call 14; refine hrd.mono ?_))
        rintro e w1 ⟨rfl, l1⟩
        have hp1 := Hpx.out w1 (bound_belowW hm l1)
        go_wp2_with (go_at_call 12; refine hp1.mono ?_; rintro e w2 ⟨rfl, rfl⟩)
        go_ret2
        exact ⟨rfl, l1⟩
      | false =>
        have he : decV (decW s.data.toList) = .tuple #[.string X, .int .i64 0] := by
          unfold decW
          rw [hp, hr]
          simp only [hq]
          rw [← hX]
          rfl
        rw [he]
        rw [hq] at hpx
        have Hpx := Lib.hid hpx
        clear he hp hr hbl hsl hX hXd hq hpx
        go_enter Tryd.func8, Tryd.ntmps8
        go_wp2_with (first | (go_at_call 12; refine hpl.mono ?_; rintro e w1 ⟨rfl, rfl⟩) | (go_at_call 14; refine hrd.mono ?_))
        rintro e w1 ⟨rfl, l1⟩
        have hp1 := Hpx.out w1 (bound_belowW hm l1)
        go_wp2_with (go_at_call 12; refine hp1.mono ?_; rintro e w2 ⟨rfl, rfl⟩)
        go_ret2
        exact ⟨rfl, l1⟩
end Go.Proofs.YtjkcjbbkplonkaaDoor
