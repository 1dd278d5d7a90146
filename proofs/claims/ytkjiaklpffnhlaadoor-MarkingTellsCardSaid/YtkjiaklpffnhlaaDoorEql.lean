/-
  Equality of labels and of texts, as the code asks it, decided.
-/
import Derived.Test.YtkjiaklpffnhlaaDoorRows
import Derived.WalkKit
import Derived.WalkSpells
import Derived.WalkLawsBesides
namespace Go.Proofs.YtkjiaklpffnhlaaDoor
open Go.RowKit

theorem eql_label (l k l' k' : Int) (w : World) : (Op.equalIn 10000 27 (.agg #[.int .i64 l, .int .u64 k]) (.agg #[.int .i64 l', .int .u64 k'])).run Tryd.prog w = .ok (decide (l = l' ∧ k = k')) w := by
  by_cases h : l = l' <;> by_cases h' : k = k' <;> simp [go_sem, h, h']
theorem bytes_list (t : ByteArray) : t.toList = t.data.toList := by
  cases t with
  | mk d => cases d with
    | mk l => simp
theorem bytes_ne {a b : ByteArray} (h : a ≠ b) : (a.toList == b.toList) = false := by
  simp only [bytes_list, beq_eq_false_iff_ne, ne_eq]
  exact fun e => h (ByteArray.ext (Array.ext' e))
end Go.Proofs.YtkjiaklpffnhlaaDoor
