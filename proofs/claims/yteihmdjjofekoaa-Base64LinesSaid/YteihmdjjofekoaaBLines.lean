/-
  Base64Lines returns true, for any text: the walk.
-/
import Derived.Test.YteihmdjjofekoaaAwake3
import Derived.Test.YteihmdjjofekoaaB64L
namespace Go.Proofs.Yteihmdjjofekoaa
open Go.RowKit

/-- How far a folded text was read: in the line q at its n-th letter, or all. -/
def ReadTo (L T acc : ByteArray) (i n : Nat) : Prop :=
  (∃ q, i = 78 * q + n ∧ n ≤ 76 ∧ 76 * q + n ≤ L.size ∧ acc.data.toList = L.data.toList.take (76 * q + n)) ∨ (i = T.size ∧ n = 0 ∧ acc = L)
section
variable {L T acc : ByteArray} {i n : Nat} (hT : T.data.toList = foldB L.data.toList) (h4 : L.size % 4 = 0) (hok : ∀ c ∈ L.data.toList, c ≠ 13)
include hT
theorem folded_size : T.size = L.size + 2 * ((L.size + 75) / 76) := by
  have h := fold_size L.data.toList
  rw [← hT] at h
  exact h
theorem read_end (h : ReadTo L T acc i n) (hi : T.size ≤ i) : i = T.size ∧ n = 0 ∧ acc = L := by
  have hz := folded_size hT
  rcases h with ⟨q, h1, h2, h3, h5⟩ | h
  · have e1 : n = 0 := by omega
    have e2 : L.size = 76 * q := by omega
    refine ⟨by omega, e1, ByteArray.ext (Array.ext' ?_)⟩
    rw [h5, List.take_of_length_le (Nat.le_of_eq (show L.data.toList.length = _ by rw [show L.data.toList.length = L.size from rfl]; omega))]
  · exact h
include h4 hok
/-- What stands next: a letter, or a line's end. -/
theorem read_next (h : ReadTo L T acc i n) (hi : i < T.size) :
    (n < 76 ∧ T[i] ≠ 13 ∧ ReadTo L T (acc ++ T.extract i (i + 1)) (i + 1) (n + 1)) ∨
    (∃ h2 : i + 1 < T.size, T[i] = 13 ∧ T[i + 1] = 10 ∧ 4 ≤ n ∧ n ≤ 76 ∧ n % 4 = 0 ∧ (n = 76 ∨ i + 2 = T.size) ∧ ReadTo L T acc (i + 2) 0) := by
  have hz := folded_size hT
  have hl : L.data.toList.length = L.size := rfl
  have hTl : T.data.toList.length = T.size := rfl
  have get : ∀ (k : Nat) (hk : k < T.size) (c : UInt8), (foldB L.data.toList)[k]? = some c → T[k] = c := fun k hk c hc => by
    rw [← hT, List.getElem?_eq_getElem (by rw [hTl]; exact hk)] at hc
    exact Option.some.inj hc
  rcases h with ⟨q, h1, h2, h3, h5⟩ | ⟨h, _⟩
  · by_cases hA : n < 76 ∧ 76 * q + n < L.size
    · left
      have hg := fold_get (l := L.data.toList) (m := q) (n := n) hA.1 (by omega)
      have hg := hg.trans (List.getElem?_eq_getElem (show 76 * q + n < L.data.toList.length by omega))
      have hc := get i hi _ (by rw [h1]; exact hg)
      refine ⟨hA.1, ?_, .inl ⟨q, by omega, by omega, by omega, ?_⟩⟩
      · rw [hc]
        exact hok _ (List.getElem_mem _)
      · have e1 : (acc ++ T.extract i (i + 1)).data.toList = acc.data.toList ++ (T.extract i (i + 1)).data.toList := by simp
        rw [e1, Lib.extract_data, h5, show i + 1 - i = 1 by omega]
        have e2 : (T.data.toList.drop i).take 1 = [L.data.toList[76 * q + n]'(by omega)] := by
          rw [List.drop_eq_getElem_cons (by rw [hTl]; exact hi), List.take_succ_cons, List.take_zero]
          exact congrArg (fun x => [x]) hc
        rw [e2, ← Nat.add_assoc, List.take_succ_eq_append_getElem]
    · right
      have hn : 0 < n := by omega
      have hmin : min 76 (L.data.toList.length - 76 * q) = n := by omega
      obtain ⟨c1, c2⟩ := fold_cr (l := L.data.toList) (m := q) (by omega)
      rw [hmin, ← h1] at c1 c2
      have h6 : i + 1 < T.size := by omega
      refine ⟨h6, get i hi _ c1, get (i + 1) h6 _ c2, by omega, h2, by omega, by omega, ?_⟩
      by_cases h7 : n = 76
      · exact .inl ⟨q + 1, by omega, by omega, by omega, by rw [h5]; congr 1; omega⟩
      · refine .inr ⟨by omega, rfl, ByteArray.ext (Array.ext' ?_)⟩
        rw [h5, List.take_of_length_le (by omega)]
  · omega
end

set_option maxRecDepth 100000 in
set_option maxHeartbeats 4000000 in
theorem blines_walk (s : ByteArray) (m : Int) (w : World) (hm : w.cell? ⟨0, 0, none⟩ = some (.int .i64 m)) (hs : s.size ≤ maxLen) :
    Calls Try.prog 7 #[.string s] w fun e w' => e = .returned (.bool true) ∧ Below w.heap.size w w' := by
  have haw := awake3_any m w hm
  unfold maxLen at hs
  go_enter Try.func7, Try.ntmps7
  go_wp2_with fail
  refine haw.mono ?_
  rintro e w1 ⟨rfl, hw1⟩
  clear haw hm
  by_cases h1 : 3000 < s.size
  · go_wp2
    go_ret
    exact ⟨rfl, hw1⟩
  have hel := enc_len s.data.toList
  have hsl : s.data.toList.length = s.size := rfl
  rw [hsl] at hel
  have C1 : Hid (∀ W, Calls Try.prog 14 #[.string s] W fun e w' => e = .returned (.string ⟨(encB s.data.toList).toArray⟩) ∧ Below W.heap.size W w') := Lib.hid fun W => enc_any s W (by omega)
  have C2 : Hid (∀ W, Calls Try.prog 16 #[.string s] W fun e w' => e = .returned (.string ⟨(foldB (encB s.data.toList)).toArray⟩) ∧ Below W.heap.size W w') := Lib.hid fun W => fold_any s W (by omega)
  obtain ⟨L, hL⟩ : ∃ L : ByteArray, (⟨(encB s.data.toList).toArray⟩ : ByteArray) = L := ⟨_, rfl⟩
  obtain ⟨T, hT⟩ : ∃ T : ByteArray, (⟨(foldB (encB s.data.toList)).toArray⟩ : ByteArray) = T := ⟨_, rfl⟩
  rw [hL] at C1
  rw [hT] at C2
  have hLd : L.data.toList = encB s.data.toList := by rw [← hL]
  have hTd : T.data.toList = foldB L.data.toList := by rw [hLd, ← hT]
  have hLs : L.size = (s.size + 2) / 3 * 4 := by
    have : L.size = (encB s.data.toList).length := by rw [← hL]; rfl
    omega
  have hTs := folded_size hTd
  have hTb : T.size ≤ 10000 := by omega
  have hLb : L.size ≤ 5000 := by omega
  have Next := Lib.hid fun (acc : ByteArray) (i n : Nat) (h : ReadTo L T acc i n) (hi : i < T.size) => read_next hTd (by omega) (fun c hc => (ok_end (enc_ok s.data.toList c (by rw [← hLd]; exact hc))).1) h hi
  have End := Lib.hid fun (acc : ByteArray) (i n : Nat) (h : ReadTo L T acc i n) (hi : T.size ≤ i) => read_end hTd h hi
  have hR0 : ReadTo L T ⟨#[]⟩ 0 0 := .inl ⟨0, rfl, by omega, by omega, rfl⟩
  have Acc : Hid (∀ (acc : ByteArray) (i n : Nat), ReadTo L T acc i n → acc.size ≤ 10000) := Lib.hid fun acc i n h => by
    rcases h with ⟨q, _, _, _, h5⟩ | ⟨_, _, h⟩
    · have h6 := congrArg List.length h5
      rw [List.length_take] at h6
      have h7 : acc.data.toList.length = acc.size := rfl
      have h8 : L.data.toList.length = L.size := rfl
      omega
    · rw [h]; omega
  clear hL hT hLd hTd hLs hTs hel hsl
  go_wp2_with fail
  refine (C2.out _).mono ?_
  rintro e w2 ⟨rfl, hb⟩
  have b2 := hw1.trans (hb.mono hw1.size)
  clear hb C2
  go_wp2
  go_loop [4, 5, 6] (fun av nv iv => ∃ (acc : ByteArray) (i n : Nat), i ≤ T.size ∧ iv = .int .i64 i ∧ nv = .int .i64 n ∧ n ≤ 76 ∧ av = .string acc ∧ ReadTo L T acc i n) (fun _ _ iv => T.size - (intOf iv).toNat)
  case atStart => exact ⟨_, 0, 0, by omega, rfl, rfl, by omega, rfl, hR0⟩
  case round =>
    obtain ⟨acc, i, n, hi, rfl, rfl, hn, rfl, hR⟩ := hrel
    have hacc := Acc.out acc i n hR
    by_cases hlt : i < T.size
    · rcases Next.out acc i n hR hlt with ⟨h2, h3, hR2⟩ | ⟨h6, h3, h10, h4, h5, h7, h8, hR2⟩
      · have hc : ((T[i].toNat : Int) != 13) = true := by
          rw [bne_iff_ne]
          intro e
          exact h3 (UInt8.toNat_inj.1 (by have : (13 : UInt8).toNat = 13 := rfl; omega))
        have HR := Lib.hid hR2
        clear h3 hR hR2
        go_wp2
        exact ⟨⟨_, i + 1, n + 1, by omega, by go_num, by go_num, by omega, rfl, HR.out⟩, by simp [intOf]; omega⟩
      · have hc : ((T[i].toNat : Int) != 13) = false := by rw [h3]; rfl
        have hc2 : ((T[i + 1].toNat : Int) != 10) = false := by rw [h10]; rfl
        have HR := Lib.hid hR2
        have q4 : ((n : Int) % 4 != 0) = false := by rw [bne_eq_false_iff_eq]; omega
        clear h3 h10 hR hR2
        rcases h8 with h8 | h8
        · have q5 : ((n : Int) != 76) = false := by rw [bne_eq_false_iff_eq]; omega
          clear h7
          go_wp2
          exact ⟨⟨acc, i + 2, 0, by omega, by go_num, rfl, by omega, rfl, HR.out⟩, by simp [intOf]; omega⟩
        · have q6 : ((i : Int) + 2 != (T.size : Int)) = false := by rw [bne_eq_false_iff_eq]; omega
          clear h7
          by_cases h9 : n = 76
          · have q5 : ((n : Int) != 76) = false := by rw [bne_eq_false_iff_eq]; omega
            go_wp2
            exact ⟨⟨acc, i + 2, 0, by omega, by go_num, rfl, by omega, rfl, HR.out⟩, by simp [intOf]; omega⟩
          · have q5 : ((n : Int) != 76) = true := by rw [bne_iff_ne]; omega
            go_wp2
            exact ⟨⟨acc, i + 2, 0, by omega, by go_num, rfl, by omega, rfl, HR.out⟩, by simp [intOf]; omega⟩
    · obtain ⟨e1, rfl, rfl⟩ := End.out acc i n hR (by omega)
      clear hR
      go_wp2_with fail
      refine (C1.out _).mono ?_
      rintro e w3 ⟨rfl, hb⟩
      have b3 := b2.trans (hb.mono b2.size)
      clear hb
      go_wp2
      go_ret
      exact ⟨rfl, b3⟩
end Go.Proofs.Yteihmdjjofekoaa
