/-
  What words.lettersOf comes to: told by the plain function.
-/
import Derived.Test.YtjkcjbbkplonkaaDoorW5F
import Derived.Test.YtjkcjbbkplonkaaDoorShelf
import Derived.WalkKit
import Derived.WalkSpells
import Derived.WalkLawsBesides
import Derived.Lib.Hide
namespace Go.Proofs.YtjkcjbbkplonkaaDoor
open Go.RowKit

theorem pre_true {l p : List UInt8} (h : p.isPrefixOf l = true) : Lib.hasPrefix l p = true ∧ Lib.trimPrefix l p = l.drop p.length := by
  have h' : Lib.hasPrefix l p = true := h
  unfold Lib.trimPrefix
  rw [if_pos h']
  exact ⟨h', rfl⟩
theorem pre_false {l p : List UInt8} (h : ¬ p.isPrefixOf l = true) : Lib.hasPrefix l p = false ∧ Lib.trimPrefix l p = l := by
  have h' : Lib.hasPrefix l p = false := Bool.eq_false_iff.2 h
  unfold Lib.trimPrefix
  rw [h', if_neg (by simp)]
  exact ⟨rfl, rfl⟩
theorem suf_true {l p : List UInt8} (h : p.isSuffixOf l = true) : Lib.hasSuffix l p = true ∧ Lib.trimSuffix l p = l.take (l.length - p.length) := by
  have h' : Lib.hasSuffix l p = true := h
  unfold Lib.trimSuffix
  rw [if_pos h']
  exact ⟨h', rfl⟩
theorem suf_false {l p : List UInt8} (h : ¬ p.isSuffixOf l = true) : Lib.hasSuffix l p = false ∧ Lib.trimSuffix l p = l := by
  have h' : Lib.hasSuffix l p = false := Bool.eq_false_iff.2 h
  unfold Lib.trimSuffix
  rw [h', if_neg (by simp)]
  exact ⟨rfl, rfl⟩
/-- What cutting hands back. -/
def letV (r : Option (List UInt8)) (p : ByteArray) : Value := match r with
  | some l => .tuple #[.string ⟨l.toArray⟩, .bool true]
  | none => .tuple #[.string p, .bool false]

set_option maxRecDepth 100000 in
set_option maxHeartbeats 2000000 in
theorem wlet_any (s : ByteArray) (w : World) (hs : s.size ≤ 1000000) :
    Calls Tryd.prog 31 #[.string s] w fun e w' => (∃ p, e = .returned (letV (lettersW s.data.toList) p)) ∧ w = w' := by
  have c1 := fun W => Tryd.strings_CutPrefix s ⟨#[61, 63, 85, 84, 70, 45, 56, 63, 66, 63]⟩ W
  rw [show (⟨#[61, 63, 85, 84, 70, 45, 56, 63, 66, 63]⟩ : ByteArray).data.toList = aheadW from rfl] at c1
  by_cases h1 : aheadW.isPrefixOf s.data.toList = true
  · rw [(pre_true h1).1, (pre_true h1).2] at c1
    obtain ⟨R, hR⟩ : ∃ R : ByteArray, (⟨(s.data.toList.drop aheadW.length).toArray⟩ : ByteArray) = R := ⟨_, rfl⟩
    have hRd : R.data.toList = s.data.toList.drop 10 := by rw [← hR]; rfl
    have hRs : R.size ≤ 1000000 := by
      have e : R.size = R.data.toList.length := rfl
      rw [e, hRd, List.length_drop]
      show s.size - 10 ≤ _
      omega
    rw [hR] at c1
    have c2 := fun W => Tryd.strings_CutSuffix R ⟨#[63, 61]⟩ W (by omega)
    rw [show (⟨#[63, 61]⟩ : ByteArray).data.toList = [63, 61] from rfl] at c2
    by_cases h2 : List.isSuffixOf [63, 61] R.data.toList = true
    · rw [(suf_true h2).1, (suf_true h2).2] at c2
      have hl : lettersW s.data.toList = some (R.data.toList.take (R.data.toList.length - 2)) := by
        unfold lettersW
        rw [← hRd, if_pos ⟨h1, h2⟩]
      rw [hl]
      obtain ⟨T, hT⟩ : ∃ T : ByteArray, (⟨(R.data.toList.take (R.data.toList.length - ([63, 61] : List UInt8).length)).toArray⟩ : ByteArray) = T := ⟨_, rfl⟩
      rw [hT] at c2
      have hv : ∀ p, letV (some (R.data.toList.take (R.data.toList.length - 2))) p = .tuple #[.string T, .bool true] := fun p => by rw [← hT]; rfl
      simp only [hv]
      clear hv hT hl h1 h2 hR hRd
      go_enter Tryd.func31, Tryd.ntmps31
      go_wp2_with (first | (go_at_call 38; refine (c1 _).mono ?_; rintro e w1 ⟨rfl, rfl⟩) | (go_at_call 39; refine (c2 _).mono ?_; rintro e w1 ⟨rfl, rfl⟩))
      go_ret2
      exact ⟨⟨⟨#[]⟩, rfl⟩, rfl⟩
    · rw [(suf_false h2).1, (suf_false h2).2] at c2
      have hl : lettersW s.data.toList = none := by
        unfold lettersW
        rw [← hRd, if_neg (fun h => h2 h.2)]
      rw [hl, show (⟨R.data.toList.toArray⟩ : ByteArray) = R from rfl] at *
      unfold letV
      clear hl h1 h2 hR hRd
      go_enter Tryd.func31, Tryd.ntmps31
      go_wp2_with (first | (go_at_call 38; refine (c1 _).mono ?_; rintro e w1 ⟨rfl, rfl⟩) | (go_at_call 39; refine (c2 _).mono ?_; rintro e w1 ⟨rfl, rfl⟩))
      go_ret2
      exact ⟨⟨_, rfl⟩, rfl⟩
  · rw [(pre_false h1).1, (pre_false h1).2, show (⟨s.data.toList.toArray⟩ : ByteArray) = s from rfl] at c1
    have c2 := fun W => Tryd.strings_CutSuffix s ⟨#[63, 61]⟩ W (by omega)
    obtain ⟨b, hb⟩ : ∃ b, Lib.hasSuffix s.data.toList (⟨#[63, 61]⟩ : ByteArray).data.toList = b := ⟨_, rfl⟩
    obtain ⟨T, hT⟩ : ∃ T : ByteArray, (⟨(Lib.trimSuffix s.data.toList (⟨#[63, 61]⟩ : ByteArray).data.toList).toArray⟩ : ByteArray) = T := ⟨_, rfl⟩
    rw [hb, hT] at c2
    have hl : lettersW s.data.toList = none := by
      unfold lettersW
      rw [if_neg (fun h => h1 h.1)]
    rw [hl]
    unfold letV
    clear hl h1 hb hT
    go_enter Tryd.func31, Tryd.ntmps31
    go_wp2_with (first | (go_at_call 38; refine (c1 _).mono ?_; rintro e w1 ⟨rfl, rfl⟩) | (go_at_call 39; refine (c2 _).mono ?_; rintro e w1 ⟨rfl, rfl⟩))
    go_ret2
    exact ⟨⟨_, rfl⟩, rfl⟩
end Go.Proofs.YtjkcjbbkplonkaaDoor
