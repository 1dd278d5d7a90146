/-
  Lines read byte by byte, and a text's piece as a text: plain facts, of no program.
-/
import Derived.Test.YtafpifpgfpkckaaDoorQ4F
import Derived.Lib.Strings
import Derived.Lib.Walk
namespace Go.Proofs.YtafpifpgfpkckaaDoor

/-- What was read of a line by now stands ahead of what is left. -/
def glueQ (cur : List UInt8) : List (List UInt8) → List (List UInt8)
  | [] => [cur]
  | l :: ls => (cur ++ l) :: ls
theorem glue_nil {ls : List (List UInt8)} (h : ls ≠ []) : glueQ [] ls = ls := by
  cases ls with
  | nil => exact absurd rfl h
  | cons l ls => rfl
theorem glue_end (cur r : List UInt8) : glueQ cur (linesQ (13 :: 10 :: r)) = cur :: linesQ r := by
  rw [lines_end]
  show (cur ++ []) :: linesQ r = _
  rw [List.append_nil]
theorem glue_byte {c d : UInt8} (h : ¬ (c = 13 ∧ d = 10)) (cur r : List UInt8) : glueQ cur (linesQ (c :: d :: r)) = glueQ (cur ++ [c]) (linesQ (d :: r)) := by
  obtain ⟨l, ls, h1, h2⟩ := lines_cons c d r h
  rw [h1, h2]
  show (cur ++ c :: l) :: ls = (cur ++ [c] ++ l) :: ls
  simp
theorem lines_short {s : List UInt8} (h : s.length ≤ 1) : linesQ s = [s] := by
  match s, h with
  | [], _ => rfl
  | [c], _ => rfl
/-- A line as a text. -/
def textQ (l : List UInt8) : ByteArray := ⟨l.toArray⟩
theorem cut_text (s : ByteArray) (a b : Nat) : s.extract a b = textQ ((s.data.toList.drop a).take (b - a)) := ByteArray.ext (Array.ext' (by rw [Lib.extract_data]; rfl))
end Go.Proofs.YtafpifpgfpkckaaDoor
