/-
  The document's answer of layer 6, written in Go: a text's lines, and a text stuffed, told by the plain functions.
-/
import Derived.Test.YtflmbihdmmfcpaaR6C
import Derived.Test.YtflmbihdmmfcpaaFrE
import Derived.Lib.AppendStr
namespace Go.Proofs.Ytflmbihdmmfcpaa
open Go.RowKit

theorem eq13 {c : UInt8} (h : c = 13) : ((c.toNat : Int) == 13) = true := by rw [h]; rfl
theorem eq10 {c : UInt8} (h : c = 10) : ((c.toNat : Int) == 10) = true := by rw [h]; rfl
theorem ne13 {c : UInt8} (h : c ≠ 13) : ((c.toNat : Int) == 13) = false := by
  rw [beq_eq_false_iff_ne]
  intro e
  exact h (UInt8.toNat_inj.1 (by have : (13 : UInt8).toNat = 13 := rfl; omega))
theorem ne10 {c : UInt8} (h : c ≠ 10) : ((c.toNat : Int) == 10) = false := by
  rw [beq_eq_false_iff_ne]
  intro e
  exact h (UInt8.toNat_inj.1 (by have : (10 : UInt8).toNat = 10 := rfl; omega))
/-- What a text's bytes up to i tell, the last line from f on: within it, or at the second byte of its end. T: the lines, read on. -/
def AtF (s : List UInt8) (f i : Nat) (T : List (List UInt8) → Prop) : Prop :=
  (f ≤ i ∧ i ≤ s.length ∧ T (glueQ ((s.drop f).take (i - f)) (linesQ (s.drop i)))) ∨ (f = i + 1 ∧ s[i]? = some 10 ∧ T (linesQ (s.drop (i + 1))))
theorem at_last {s : List UInt8} {f i : Nat} {T : List (List UInt8) → Prop} (h : AtF s f i T) (hi : s.length ≤ i + 1) : f ≤ s.length ∧ T [s.drop f] := by
  rcases h with ⟨h1, h2, h3⟩ | ⟨rfl, h2, h3⟩
  · rw [glue_last h1 hi] at h3
    exact ⟨by omega, h3⟩
  · have h4 := (List.getElem?_eq_some_iff.1 h2).1
    refine ⟨by omega, ?_⟩
    rw [List.drop_eq_nil_of_le (by omega)] at h3 ⊢
    exact h3
theorem at_byte {s : List UInt8} {f i : Nat} {a b : UInt8} {T : List (List UInt8) → Prop} (h : AtF s f i T) (ha : s[i]? = some a) (hb : s[i + 1]? = some b) (hne : ¬ (a = 13 ∧ b = 10)) : AtF s f (i + 1) T := by
  have h4 := (List.getElem?_eq_some_iff.1 hb).1
  rcases h with ⟨h1, h2, h3⟩ | ⟨rfl, h2, h3⟩
  · rw [(glue_two h1 a b ha hb).2 hne] at h3
    exact .inl ⟨by omega, by omega, h3⟩
  · exact .inl ⟨by omega, by omega, by rw [glue_start]; exact h3⟩
theorem at_end {s : List UInt8} {f i : Nat} {T : List (List UInt8) → Prop} (h : AtF s f i T) (ha : s[i]? = some 13) (hb : s[i + 1]? = some 10) : f ≤ i ∧ T ((s.drop f).take (i - f) :: linesQ (s.drop (i + 2))) := by
  rcases h with ⟨h1, h2, h3⟩ | ⟨rfl, h2, h3⟩
  · rw [(glue_two h1 13 10 ha hb).1 ⟨rfl, rfl⟩] at h3
    exact ⟨h1, h3⟩
  · rw [ha] at h2
    cases h2
theorem at_next {s : List UInt8} {i : Nat} {T : List (List UInt8) → Prop} (hb : s[i + 1]? = some 10) (h : T (linesQ (s.drop (i + 2)))) : AtF s (i + 2) (i + 1) T := .inr ⟨rfl, hb, h⟩
theorem at_le {s : List UInt8} {f i : Nat} {T : List (List UInt8) → Prop} (h : AtF s f i T) : f ≤ s.length ∧ i ≤ s.length := by
  rcases h with ⟨h1, h2, h3⟩ | ⟨rfl, h2, h3⟩
  · omega
  · have h4 := (List.getElem?_eq_some_iff.1 h2).1
    omega

set_option maxRecDepth 100000 in
set_option maxHeartbeats 2000000 in
theorem r6lines_any (s : ByteArray) (ls : List (List UInt8)) (r : List UInt8) (w : World) (hs : s.size ≤ 1000000) (hl : linesQ s.data.toList = ls ++ [r]) :
    Calls Try.prog 18 #[.string s] w fun e w' => ∃ v, e = .returned (.tuple #[v, .int .i64 (codeF r)]) ∧ w'.ownsRow w.heap.size 9 1 v (goodF ls r).length ((textsF (goodF ls r)).map .string) ∧ Below w.heap.size w w' := by
  obtain ⟨i0, hi, hz0, hz1, hz2⟩ := info_parts infoStr6
  have Hsl : Hid (s.data.toList.length = s.size) := Lib.hid rfl
  have HL := Lib.hid hl
  clear hl
  go_enter Try.func18, Try.ntmps18
  go_wp2
  go_loopw [4, 5, 6] (fun o fv iv wr => ∃ (f i : Nat) (li : List (List UInt8)), fv = .int .i64 f ∧ iv = .int .i64 i ∧ li.length ≤ i ∧ wr.ownsRow w.heap.size 9 1 o li.length ((textsF li).map .string) ∧ Below w.heap.size w wr ∧ AtF s.data.toList f i (fun y => linesQ s.data.toList = li ++ y)) (fun _ _ iv _ => s.size - (intOf iv).toNat)
  case atStart => exact ⟨0, 0, [], rfl, rfl, by simp, World.ownsRow_nil _ _ _ _, Below.refl _ _, .inl ⟨by omega, by omega, by rw [glue_start]; rfl⟩⟩
  case round =>
    obtain ⟨f, i, li, rfl, rfl, hll, hown, hbr, hat⟩ := hrel
    have hbz := hbr.size
    have hle := at_le hat
    rw [Hsl.out] at hle
    obtain ⟨hfs, his⟩ := hle
    by_cases hlt : i + 1 < s.size
    · have ga := get_at s i (by omega)
      have gb := get_at s (i + 1) hlt
      have k1 : (0 : Int) ≤ (i : Int) := by omega
      have k2 : (i : Int) + 1 < (s.size : Int) := by omega
      by_cases hce : s[i] = 13 ∧ s[i + 1] = 10
      · rw [hce.1] at ga
        rw [hce.2] at gb
        obtain ⟨hf, hn⟩ := at_end hat ga gb
        have hx : s.extract f i = textQ ((s.data.toList.drop f).take (i - f)) := cut_text s f i
        obtain ⟨l, hle⟩ : ∃ l, (s.data.toList.drop f).take (i - f) = l := ⟨_, rfl⟩
        rw [hle] at hn hx
        have hat2 : AtF s.data.toList (i + 2) (i + 1) (fun y => linesQ s.data.toList = (li ++ [l]) ++ y) := at_next gb (by rw [hn, List.append_assoc]; rfl)
        have h13 := eq13 hce.1
        have h10 := eq10 hce.2
        have k3 : (f : Int) ≤ (i : Int) := by omega
        have k4 : (0 : Int) ≤ (f : Int) := by omega
        have k5 : (i : Int) ≤ (s.size : Int) := by omega
        have Hat := Lib.hid hat2
        have Hx := Lib.hid hx
        have hown2 := hown.alloc (.cells #[.string (s.extract f i)] 9)
        clear hat hat2 hn hx hle hce ga gb
        go_wp2_with (at_builtin; refine wpList_append_own _ rfl _ _ 22 rfl w.heap.size 9 i0 (.string ⟨#[]⟩) 1 16 Try.underlying22 hi hz0 hz1 hz2 rfl (by decide) _ li.length _ rfl hown2 ⟨wr.heap.size, 0, none⟩ 1 1 [.string (s.extract f i)] rfl rfl ?n1 ?n2 ?n3 ?n4 ?n5 ?_)
        case n1 =>
          intro j u hj
          rw [Addr.add_lit]
          have hj0 : j = 0 := by
            rcases Nat.eq_zero_or_pos j with h | h
            · exact h
            · rw [List.getElem?_eq_none (by simp; omega)] at hj
              cases hj
          subst hj0
          simp at hj
          subst hj
          go_simp
        case n2 =>
          intro u hu
          simp at hu
          subst hu
          rfl
        case n3 => unfold maxLen; omega
        case n4 => omega
        case n5 => simp; omega
        intro v' w3 hown3 hgrow3 _
        have hb3 : Below w.heap.size w w3 := (hbr.alloc hbz _).grown hgrow3 (by simp; omega) fun k hk => (hown2.lt k hk).1
        have hown4 : w3.ownsRow w.heap.size 9 1 v' (li ++ [l]).length ((textsF (li ++ [l])).map .string) := by
          rw [List.length_append, texts_snoc, List.map_append, ← Hx.out]
          exact hown3
        clear hown3 hgrow3
        go_wp2
        go_roundw
        case rel => exact ⟨i + 2, i + 1, li ++ [l], by go_num, by go_num, by simp; omega, hown4, hb3, Hat.out⟩
        case measure => simp [intOf]; omega
      · have Hat := Lib.hid (at_byte hat ga gb hce)
        clear hat ga gb
        by_cases h1 : s[i] = 13
        · have h13 := eq13 h1
          have h10 := ne10 (fun e => hce ⟨h1, e⟩)
          clear hce h1
          go_wp2
          go_roundw
          case rel => exact ⟨f, i + 1, li, rfl, by go_num, by omega, hown, hbr, Hat.out⟩
          case measure => simp [intOf]; omega
        · have h13 := ne13 h1
          clear hce h1
          go_wp2
          go_roundw
          case rel => exact ⟨f, i + 1, li, rfl, by go_num, by omega, hown, hbr, Hat.out⟩
          case measure => simp [intOf]; omega
    · obtain ⟨_, hn⟩ := at_last hat (by rw [Hsl.out]; omega)
      rw [HL.out] at hn
      obtain ⟨rfl, rfl⟩ := parts_inj hn
      clear hat hn
      by_cases hfl : f < s.size
      · have hr : s.data.toList.drop f ≠ [] := fun e => by
          have := congrArg List.length e
          rw [List.length_drop, Hsl.out] at this
          simp at this
          omega
        have hg : goodF ls (s.data.toList.drop f) = [] ∧ codeF (s.data.toList.drop f) = 2 := ⟨by unfold goodF; rw [if_neg hr], by unfold codeF; rw [if_neg hr]⟩
        have Hg := Lib.hid hg
        clear hr hg
        go_wp2
        go_ret2
        exact ⟨.slice none 0 0, by rw [Hg.out.2]; rfl, by rw [Hg.out.1]; exact World.ownsRow_nil _ _ _ _, hbr⟩
      · have hr : s.data.toList.drop f = [] := List.drop_eq_nil_of_le (by rw [Hsl.out]; omega)
        have Hr := Lib.hid hr
        clear hr
        go_wp2
        go_ret2
        exact ⟨_, by rw [Hr.out]; rfl, by rw [Hr.out]; exact hown, hbr⟩

/-- A row of bytes goes on with a text. -/
theorem bytes_snoc (acc : List UInt8) (x : ByteArray) : Lib.byteCells acc ++ Lib.strCells x = Lib.byteCells (acc ++ x.data.toList) := by rw [Lib.strCells_eq, Lib.byteCells_append]
end Go.Proofs.Ytflmbihdmmfcpaa
