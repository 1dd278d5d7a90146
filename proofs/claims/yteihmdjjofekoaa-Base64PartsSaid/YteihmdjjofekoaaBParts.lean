/-
  Base64Parts returns true, for any two texts: the walk.
-/
import Derived.Test.YteihmdjjofekoaaAwake3
namespace Go.Proofs.Yteihmdjjofekoaa
open Go.RowKit

theorem app_data (a b : ByteArray) : (a ++ b).data.toList = a.data.toList ++ b.data.toList := by simp

set_option maxRecDepth 100000 in
set_option maxHeartbeats 2000000 in
theorem bparts_walk (s t : ByteArray) (m : Int) (w : World) (hm : w.cell? ⟨0, 0, none⟩ = some (.int .i64 m)) (hs : s.size ≤ maxLen) (ht : t.size ≤ maxLen) :
    Calls Try.prog 5 #[.string s, .string t] w fun e w' => e = .returned (.bool true) ∧ Below w.heap.size w w' := by
  have haw := awake3_any m w hm
  unfold maxLen at hs ht
  go_enter Try.func5, Try.ntmps5
  go_wp2_with fail
  refine haw.mono ?_
  rintro e w1 ⟨rfl, hw1⟩
  by_cases h1 : 2000 < s.size
  · go_wp2
    go_ret
    exact ⟨rfl, hw1⟩
  · by_cases h2 : 2000 < t.size
    · go_wp2
      go_ret
      exact ⟨rfl, hw1⟩
    · have hal : (s.extract 0 (s.size / 3 * 3)).data.toList.length % 3 = 0 := by
        rw [Lib.extract_data, List.drop_zero, List.length_take]
        have : s.data.toList.length = s.size := rfl
        omega
      have haz : (s.extract 0 (s.size / 3 * 3)).size ≤ 2000 := by
        have h := congrArg List.length (Lib.extract_data s 0 (s.size / 3 * 3))
        rw [List.drop_zero, List.length_take] at h
        have h2 : (s.extract 0 (s.size / 3 * 3)).data.toList.length = (s.extract 0 (s.size / 3 * 3)).size := rfl
        have h3 : s.data.toList.length = s.size := rfl
        omega
      have e1 := fun W => enc_any (s.extract 0 (s.size / 3 * 3)) W (by omega)
      have e2 := fun W => enc_any t W (by omega)
      obtain ⟨a, ha⟩ : ∃ a, s.extract 0 (s.size / 3 * 3) = a := ⟨_, rfl⟩
      rw [ha] at hal haz e1
      have hla := enc_len a.data.toList
      have hlt := enc_len t.data.toList
      obtain ⟨la, hLa⟩ : ∃ la : ByteArray, la = ⟨(encB a.data.toList).toArray⟩ := ⟨_, rfl⟩
      obtain ⟨lt, hLt⟩ : ∃ lt : ByteArray, lt = ⟨(encB t.data.toList).toArray⟩ := ⟨_, rfl⟩
      have hsa : la.size ≤ 10000 := by
        have h1 : la.size = (encB a.data.toList).length := by rw [hLa]; rfl
        have h2 : a.data.toList.length = a.size := rfl
        omega
      have hst : lt.size ≤ 10000 := by
        have h1 : lt.size = (encB t.data.toList).length := by rw [hLt]; rfl
        have h2 : t.data.toList.length = t.size := rfl
        omega
      rw [← hLa] at e1
      rw [← hLt] at e2
      have hcat : (la ++ lt).data.toList = encB a.data.toList ++ encB t.data.toList := by rw [app_data, hLa, hLt]
      have hdec : decB (la ++ lt).data.toList = some (a ++ t).data.toList := by rw [hcat, dec_parts hal, app_data]
      have henc : (⟨(encB (a ++ t).data.toList).toArray⟩ : ByteArray) = la ++ lt := ByteArray.ext (Array.ext' (by rw [hcat]; show encB (a ++ t).data.toList = _; rw [app_data, enc_append _ _ hal]))
      have hzl : (la ++ lt).size ≤ 100000 := by rw [ByteArray.size_append]; omega
      have hza : (a ++ t).size ≤ 100000 := by rw [ByteArray.size_append]; omega
      have d1 := fun W => dec_any (la ++ lt) W (by omega)
      have e3 := fun W => enc_any (a ++ t) W (by omega)
      rw [hdec] at d1
      rw [henc] at e3
      have d2 : ∀ W, Calls Try.prog 10 #[.string (la ++ lt)] W fun e w' => e = .returned (.tuple #[.string (a ++ t), .int .i64 0]) ∧ Below W.heap.size W w' := d1
      clear d1 hdec henc hcat hLa hLt hla hlt hal
      go_wp2_with fail
      rw [ha]
      clear ha hs ht hm haw
      refine (e1 _).mono ?_
      rintro e w2 ⟨rfl, hw2⟩
      go_wp2_with fail
      refine (e2 _).mono ?_
      rintro e w3 ⟨rfl, hw3⟩
      go_wp2_with fail
      refine (d2 _).mono ?_
      rintro e w4 ⟨rfl, hw4⟩
      go_wp2_with fail
      refine (e3 _).mono ?_
      rintro e w5 ⟨rfl, hw5⟩
      have b2 := hw1.trans (hw2.mono hw1.size)
      have b3 := b2.trans (hw3.mono b2.size)
      have b4 := b3.trans (hw4.mono b3.size)
      have b5 := b4.trans (hw5.mono b4.size)
      clear e1 e2 e3 d2
      go_wp2
      go_ret
      exact ⟨rfl, b5⟩
end Go.Proofs.Yteihmdjjofekoaa
