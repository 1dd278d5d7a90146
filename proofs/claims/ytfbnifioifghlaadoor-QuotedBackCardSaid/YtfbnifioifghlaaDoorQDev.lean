/-
  What quoted.Decode comes to: told by the plain function.
-/
import Derived.Test.YtfbnifioifghlaaDoorQ5D
namespace Go.Proofs.YtfbnifioifghlaaDoor
open Go.RowKit

theorem decV4_none : decV4 none = .tuple #[.string ⟨#[]⟩, .int .i64 2] := rfl

theorem bound_below {m : Int} {w w' : World} (hm : w.cell? ⟨0, 0, none⟩ = some (.int .i64 m)) (hb : Below w.heap.size w w') : w'.cell? ⟨0, 0, none⟩ = some (.int .i64 m) := by
  have hlt : 0 < w.heap.size := by
    rcases Nat.lt_or_ge 0 w.heap.size with h | h
    · exact h
    · rw [World.cell?, Array.getElem?_eq_none h] at hm
      simp at hm
  exact (hb.cell (p := ⟨0, 0, none⟩) hlt).trans hm

set_option maxRecDepth 100000 in
set_option maxHeartbeats 4000000 in
theorem q4dec_any (s : ByteArray) (m : Int) (w : World) (hs : s.size ≤ 90000) (hm : w.cell? ⟨0, 0, none⟩ = some (.int .i64 m)) :
    Calls Tryd.prog 10 #[.string s] w fun e w' => e = .returned (decV4 (decQ s.data.toList)) ∧ Below w.heap.size w w' := by
  have hread := read_any s w (by omega)
  have hsl : s.data.toList.length = s.size := rfl
  have hd := read_dec s.data.toList
  cases hr : readQ s.data.toList with
  | none =>
    rw [hr] at hread hd
    rw [hd]
    unfold readV at hread
    clear hd hr hsl
    go_enter Tryd.func10, Tryd.ntmps10
    go_wp2_with fail
    refine hread.mono ?_
    rintro e w2 ⟨rfl, hw2⟩
    go_wp2
    go_ret2
    exact ⟨rfl, hw2⟩
  | some l =>
    have hlen := read_len hr
    rw [hsl] at hlen
    rw [hr] at hread hd
    rw [hd]
    unfold readV at hread
    obtain ⟨X, hX⟩ : ∃ X : ByteArray, (⟨l.toArray⟩ : ByteArray) = X := ⟨_, rfl⟩
    have hXl : X.data.toList = l := by rw [← hX]
    have hXs : X.size = l.length := by rw [← hX]; rfl
    simp only [hX] at hread
    have henc := fun W hW => q4enc_any X m W (by omega) hW
    rw [hXl] at henc
    obtain ⟨Y, hY⟩ : ∃ Y : ByteArray, (⟨(encQ l).toArray⟩ : ByteArray) = Y := ⟨_, rfl⟩
    have hYl : Y.data.toList = encQ l := by rw [← hY]
    rw [hY] at henc
    have Henc := Lib.hid henc
    by_cases e : encQ l = s.data.toList
    · have hne : Y = s := ByteArray.ext (Array.ext' (hYl.trans e))
      have hv : decV4 (some l) = .tuple #[.string X, .int .i64 0] := by rw [← hX]; rfl
      simp only [if_pos e, hv]
      subst hne
      clear hd hr hsl hX hXl hXs hY hYl e hlen henc hv
      go_enter Tryd.func10, Tryd.ntmps10
      go_wp2_with fail
      refine hread.mono ?_
      rintro e w2 ⟨rfl, hw2⟩
      have hm2 := bound_below hm hw2
      go_wp2_with fail
      refine (Henc.out _ hm2).mono ?_
      rintro e w3 ⟨rfl, hw3⟩
      go_wp2
      go_ret2
      exact ⟨rfl, hw2.trans (hw3.mono hw2.size)⟩
    · have hne : (Y.toList == s.toList) = false := bytes_ne4 (fun h => e (by rw [← hYl, h]))
      simp only [if_neg e, decV4_none]
      clear hd hr hsl hX hXl hXs hY hYl e hlen henc
      go_enter Tryd.func10, Tryd.ntmps10
      go_wp2_with fail
      refine hread.mono ?_
      rintro e w2 ⟨rfl, hw2⟩
      have hm2 := bound_below hm hw2
      go_wp2_with fail
      refine (Henc.out _ hm2).mono ?_
      rintro e w3 ⟨rfl, hw3⟩
      go_wp2
      go_ret2
      exact ⟨rfl, hw2.trans (hw3.mono hw2.size)⟩
end Go.Proofs.YtfbnifioifghlaaDoor
