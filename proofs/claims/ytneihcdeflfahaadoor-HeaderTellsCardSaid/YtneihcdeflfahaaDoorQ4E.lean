/-
  How long a told text is, and its lines so far: plain facts, of no program.
-/
import Derived.Test.YtneihcdeflfahaaDoorQ4F
namespace Go.Proofs.YtneihcdeflfahaaDoor

theorem tell_len : ∀ (l : List UInt8) (n : Nat), (tellQ n l).length ≤ 6 * l.length
  | [], _ => by simp [tellQ]
  | c :: r, n => by
    have h := sign_len c (decide (r = []))
    have i1 := tell_len r (signB c (decide (r = []))).length
    have i2 := tell_len r (n + (signB c (decide (r = []))).length)
    rw [tellQ]
    split
    · simp only [List.length_cons, List.length_append]
      omega
    · simp only [List.length_cons, List.length_append]
      omega
theorem join_tell_len : ∀ ls : List (List UInt8), (joinQ (ls.map (tellQ 0))).length ≤ 6 * (joinQ ls).length
  | [] => by simp [joinQ]
  | [l] => tell_len l 0
  | l :: m :: ls => by
    have ih := join_tell_len (m :: ls)
    have h := tell_len l 0
    rw [List.map_cons, join_cons _ (by simp), join_cons l (ls := m :: ls) (by simp)]
    simp only [List.length_cons, List.length_append]
    omega
theorem encQ_len (s : List UInt8) : (encQ s).length ≤ 6 * s.length := by
  have := join_tell_len (linesQ s)
  rw [join_lines] at this
  exact this
theorem tell_ge : ∀ (l : List UInt8) (n : Nat), l.length ≤ (tellQ n l).length
  | [], _ => by simp
  | c :: r, n => by
    have h := sign_len c (decide (r = []))
    have i1 := tell_ge r (signB c (decide (r = []))).length
    have i2 := tell_ge r (n + (signB c (decide (r = []))).length)
    rw [tellQ]
    split
    · simp only [List.length_cons, List.length_append]
      omega
    · simp only [List.length_cons, List.length_append]
      omega
theorem join_tell_ge : ∀ ls : List (List UInt8), (joinQ ls).length ≤ (joinQ (ls.map (tellQ 0))).length
  | [] => by simp [joinQ]
  | [l] => tell_ge l 0
  | l :: m :: ls => by
    have ih := join_tell_ge (m :: ls)
    have h := tell_ge l 0
    rw [List.map_cons, join_cons l (ls := m :: ls) (by simp), join_cons (tellQ 0 l) (by simp)]
    simp only [List.length_cons, List.length_append]
    omega
/-- A told text is at least as long. -/
theorem encQ_ge (s : List UInt8) : s.length ≤ (encQ s).length := by
  have := join_tell_ge (linesQ s)
  rw [join_lines] at this
  exact this
/-- The first j lines, told, with ends between. -/
def uptoQ (ls : List (List UInt8)) (j : Nat) : List UInt8 := joinQ ((ls.take j).map (tellQ 0))
theorem upto_len : ∀ (ls : List (List UInt8)) (j : Nat), (uptoQ ls j).length ≤ (joinQ (ls.map (tellQ 0))).length
  | [], j => by simp [uptoQ]
  | [l], 0 => by simp [uptoQ, joinQ]
  | [l], j + 1 => by simp [uptoQ]
  | l :: m :: ls, 0 => by simp [uptoQ, joinQ]
  | l :: m :: ls, 1 => by
    show (tellQ 0 l).length ≤ _
    rw [List.map_cons, join_cons _ (by simp)]
    simp only [List.length_append]
    omega
  | l :: m :: ls, j + 2 => by
    have ih := upto_len (m :: ls) (j + 1)
    unfold uptoQ at ih ⊢
    rw [List.take_succ_cons, List.map_cons, List.map_cons, join_cons _ (by simp), join_cons _ (by simp)]
    simp only [List.length_append, List.length_cons] at ih ⊢
    omega
/-- What stands ahead of line i: the lines before it, with ends. -/
def aheadQ (ls : List (List UInt8)) (i : Nat) : List UInt8 := if i = 0 then [] else uptoQ ls i ++ [13, 10]
theorem upto_succ {ls : List (List UInt8)} {i : Nat} (h : i < ls.length) : uptoQ ls (i + 1) = aheadQ ls i ++ tellQ 0 ls[i] := by
  unfold uptoQ aheadQ
  rw [List.take_succ_eq_append_getElem h, List.map_append]
  by_cases h0 : i = 0
  · subst h0
    rw [if_pos rfl]
    rfl
  · rw [if_neg h0, join_append _ _ (by intro e; have := congrArg List.length e; rw [List.length_map, List.length_take, List.length_nil] at this; omega) (by simp)]
    unfold uptoQ
    simp [joinQ]
theorem upto_all (s : List UInt8) : uptoQ (linesQ s) (linesQ s).length = encQ s := by
  unfold uptoQ encQ
  rw [List.take_length]
theorem upto_bound (s : List UInt8) (j : Nat) : (uptoQ (linesQ s) j).length ≤ 6 * s.length :=
  Nat.le_trans (upto_len (linesQ s) j) (encQ_len s)
theorem lines_mem_len : ∀ (ls : List (List UInt8)) (i : Nat) (h : i < ls.length), ls[i].length ≤ (joinQ ls).length
  | [l], 0, _ => by simp [joinQ]
  | l :: m :: ls, 0, _ => by rw [join_cons l (by simp)]; simp
  | l :: m :: ls, i + 1, h => by
    have := lines_mem_len (m :: ls) i (by simpa using h)
    rw [join_cons l (by simp)]
    simp only [List.length_append, List.length_cons, List.getElem_cons_succ]
    omega
theorem lines_count : ∀ s : List UInt8, (linesQ s).length ≤ s.length + 1
  | [] => by simp [linesQ]
  | [c] => by simp [linesQ]
  | c :: d :: r => by
    by_cases h : c = 13 ∧ d = 10
    · rw [h.1, h.2, lines_end]
      have := lines_count r
      simp only [List.length_cons]
      omega
    · obtain ⟨l, ls, h1, h2⟩ := lines_cons c d r h
      have := lines_count (d :: r)
      rw [h1] at this
      rw [h2]
      simp only [List.length_cons] at this ⊢
      omega
end Go.Proofs.YtneihcdeflfahaaDoor
