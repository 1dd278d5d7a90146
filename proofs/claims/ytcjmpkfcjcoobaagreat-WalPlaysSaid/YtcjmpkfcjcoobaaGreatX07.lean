/-
  Texts of this proof, put together: S7F.
-/
import Derived.Lib.Strings
namespace Go.Proofs.YtcjmpkfcjcoobaaGreat

/-- A sector's bytes: filled up with bytes 0. -/
def fillD (x : List UInt8) : List UInt8 := x ++ List.replicate (64 - x.length) 0
theorem fill_len {x : List UInt8} (h : x.length ≤ 64) : (fillD x).length = 64 := by
  unfold fillD
  rw [List.length_append, List.length_replicate]
  omega
/-- Each has 64 bytes. -/
def okS (ss : List (List UInt8)) : Prop := ∀ s ∈ ss, s.length = 64
theorem okS.get {ss : List (List UInt8)} (h : okS ss) {i : Nat} (hi : i < ss.length) : ss[i].length = 64 := h _ (List.getElem_mem hi)
theorem okS.set {ss : List (List UInt8)} (h : okS ss) (i : Nat) {x : List UInt8} (hx : x.length = 64) : okS (ss.set i x) := fun s hs => by
  rcases List.mem_or_eq_of_mem_set hs with h1 | h1
  · exact h s h1
  · rw [h1]
    exact hx
theorem flat_len : ∀ {ss : List (List UInt8)}, okS ss → ss.flatten.length = 64 * ss.length
  | [], _ => rfl
  | s :: t, h => by
    rw [List.flatten_cons, List.length_append, flat_len (ss := t) (fun x hx => h x (List.mem_cons_of_mem _ hx)), h s (List.mem_cons_self ..), List.length_cons]
    omega
theorem flat_get : ∀ {ss : List (List UInt8)}, okS ss → ∀ {i : Nat} (hi : i < ss.length), (ss.flatten.drop (64 * i)).take 64 = ss[i]
  | s :: t, h, 0, _ => by
    have hs : s.length = 64 := h s (List.mem_cons_self ..)
    rw [List.flatten_cons, Nat.mul_zero, List.drop_zero, List.take_append_of_le_length (by omega), List.take_of_length_le (by omega)]
    rfl
  | s :: t, h, i + 1, hi => by
    have hs : s.length = 64 := h s (List.mem_cons_self ..)
    have ih := flat_get (ss := t) (fun x hx => h x (List.mem_cons_of_mem _ hx)) (i := i) (by simpa using hi)
    rw [List.flatten_cons, List.drop_append, List.drop_eq_nil_of_le (by omega), List.nil_append, show 64 * (i + 1) - s.length = 64 * i by omega, ih]
    rfl
theorem flat_part : ∀ {ss : List (List UInt8)}, okS ss → ∀ {i : Nat} (hi : i < ss.length) (y : List UInt8), y.length ≤ 64 →
    ss.flatten.take (64 * i) ++ (y ++ ss.flatten.drop (64 * i + y.length)) = (ss.set i (y ++ ss[i].drop y.length)).flatten
  | s :: t, h, 0, _, y, hy => by
    have hs : s.length = 64 := h s (List.mem_cons_self ..)
    rw [List.set_cons_zero, List.flatten_cons, List.flatten_cons, Nat.mul_zero, List.take_zero, List.nil_append, Nat.zero_add, List.drop_append_of_le_length (by omega), List.append_assoc]
    rfl
  | s :: t, h, i + 1, hi, y, hy => by
    have hs : s.length = 64 := h s (List.mem_cons_self ..)
    have hi2 : i < t.length := by simpa using hi
    have ih := flat_part (ss := t) (fun x hx => h x (List.mem_cons_of_mem _ hx)) hi2 y hy
    rw [List.set_cons_succ, List.flatten_cons, List.flatten_cons, show (s :: t)[i + 1] = t[i] from rfl, ← ih, List.take_append, List.take_of_length_le (by omega), List.drop_append, List.drop_eq_nil_of_le (show s.length ≤ 64 * (i + 1) + y.length by omega),
      show 64 * (i + 1) - s.length = 64 * i by omega, show 64 * (i + 1) + y.length - s.length = 64 * i + y.length by omega, List.nil_append, List.append_assoc]

/-- A disk: its sectors; the cut that it is armed with; is the power off; how many writes there were; of these so many ahead of the count. -/
structure Dk where
  ss : List (List UInt8)
  ca : Int
  ct : Int
  down : Bool
  wr : Int
  ah : Int
/-- How many bytes a cut leaves. -/
def tornN (ct : Int) : Nat := (min (max ct 0) 64).toNat
theorem torn_le (ct : Int) : tornN ct ≤ 64 := by unfold tornN; omega
def checkD (d : Dk) (p : Int) : Int := if d.down = true then 6 else if p < 0 ∨ (d.ss.length : Int) ≤ p then 1 else 0
def codeD (d : Dk) : Int := if d.wr + 1 - d.ah = d.ca then 6 else 0
/-- Behind a write, be it the last one. -/
def wroteD (d : Dk) (i : Nat) (x : List UInt8) : Dk :=
  if d.wr + 1 - d.ah = d.ca then ⟨d.ss.set i ((fillD x).take (tornN d.ct) ++ (d.ss.getD i []).drop (tornN d.ct)), 0, 0, true, d.wr + 1, d.ah⟩
  else ⟨d.ss.set i (fillD x), d.ca, d.ct, d.down, d.wr + 1, d.ah⟩
def writeD (d : Dk) (p : Int) (x : List UInt8) : Dk := if checkD d p = 0 ∧ x.length ≤ 64 then wroteD d p.toNat x else d
def sayD (d : Dk) (p : Int) (x : List UInt8) : Int := if checkD d p = 0 then (if x.length ≤ 64 then codeD d else 3) else checkD d p
def armD (d : Dk) (ca ct : Int) : Dk := ⟨d.ss, ca, ct, d.down, d.wr, d.wr⟩
def startD (d : Dk) : Dk := ⟨d.ss, d.ca, d.ct, false, d.wr, d.wr⟩
def newD (n : Nat) : Dk := ⟨List.replicate n (List.replicate 64 0), 0, 0, false, 0, 0⟩
/-- Its numbers are in order. -/
structure Dk.ok (d : Dk) : Prop where
  ss : okS d.ss
  ah : 0 ≤ d.ah
  wr : d.ah ≤ d.wr
theorem new_ok (n : Nat) : (newD n).ok := ⟨fun s hs => by
  have := List.eq_of_mem_replicate hs
  rw [this, List.length_replicate], Int.le_refl _, Int.le_refl _⟩
theorem arm_ok {d : Dk} (h : d.ok) (ca ct : Int) : (armD d ca ct).ok := ⟨h.ss, by have := h.ah; have := h.wr; show 0 ≤ d.wr; omega, Int.le_refl _⟩
theorem start_ok {d : Dk} (h : d.ok) : (startD d).ok := ⟨h.ss, by have := h.ah; have := h.wr; show 0 ≤ d.wr; omega, Int.le_refl _⟩
theorem torn_len {y z : List UInt8} (hy : y.length = 64) (hz : z.length = 64) (ct : Int) : (y.take (tornN ct) ++ z.drop (tornN ct)).length = 64 := by
  have := torn_le ct
  rw [List.length_append, List.length_take, List.length_drop]
  omega
theorem wrote_ok {d : Dk} (h : d.ok) {i : Nat} (hi : i < d.ss.length) {x : List UInt8} (hx : x.length ≤ 64) : (wroteD d i x).ok := by
  have h1 := h.ah
  have h2 := h.wr
  unfold wroteD
  split
  · refine ⟨h.ss.set i (torn_len (fill_len hx) ?_ _), h1, by show d.ah ≤ d.wr + 1; omega⟩
    rw [List.getD_eq_getElem?_getD, List.getElem?_eq_getElem hi]
    exact h.ss.get hi
  · exact ⟨h.ss.set i (fill_len hx), h1, by show d.ah ≤ d.wr + 1; omega⟩
theorem check_zero {d : Dk} {p : Int} : checkD d p = 0 ↔ d.down = false ∧ 0 ≤ p ∧ p < d.ss.length := by
  unfold checkD
  cases d.down with
  | true => simp
  | false =>
    rw [if_neg (by simp)]
    split
    · simp
      omega
    · simp
      omega
theorem write_ok {d : Dk} (h : d.ok) (p : Int) (x : List UInt8) : (writeD d p x).ok := by
  unfold writeD
  split
  · rename_i hc
    obtain ⟨_, h1, h2⟩ := check_zero.1 hc.1
    exact wrote_ok h (by omega) hc.2
  · exact h
theorem wrote_len (d : Dk) (i : Nat) (x : List UInt8) : (wroteD d i x).ss.length = d.ss.length := by
  unfold wroteD
  split <;> simp
theorem write_len (d : Dk) (p : Int) (x : List UInt8) : (writeD d p x).ss.length = d.ss.length := by
  unfold writeD
  split
  · exact wrote_len ..
  · rfl
theorem wrote_wr (d : Dk) (i : Nat) (x : List UInt8) : (wroteD d i x).wr = d.wr + 1 := by
  unfold wroteD
  split <;> rfl
theorem write_wr (d : Dk) (p : Int) (x : List UInt8) : (writeD d p x).wr = d.wr ∨ (writeD d p x).wr = d.wr + 1 := by
  unfold writeD
  split
  · exact .inr (wrote_wr ..)
  · exact .inl rfl
/-- A write whose number the cut has. -/
theorem write_hit {d : Dk} {p : Int} {x : List UInt8} (h : checkD d p = 0) (hx : x.length ≤ 64) (hc : d.wr + 1 - d.ah = d.ca) :
    sayD d p x = 6 ∧ writeD d p x = ⟨d.ss.set p.toNat ((fillD x).take (tornN d.ct) ++ (d.ss.getD p.toNat []).drop (tornN d.ct)), 0, 0, true, d.wr + 1, d.ah⟩ := by
  unfold sayD writeD codeD wroteD
  rw [if_pos h, if_pos hx, if_pos hc, if_pos ⟨h, hx⟩, if_pos hc]
  exact ⟨rfl, rfl⟩
/-- .. and one whose number it has not. -/
theorem write_miss {d : Dk} {p : Int} {x : List UInt8} (h : checkD d p = 0) (hx : x.length ≤ 64) (hc : ¬ d.wr + 1 - d.ah = d.ca) :
    sayD d p x = 0 ∧ writeD d p x = ⟨d.ss.set p.toNat (fillD x), d.ca, d.ct, d.down, d.wr + 1, d.ah⟩ := by
  unfold sayD writeD codeD wroteD
  rw [if_pos h, if_pos hx, if_neg hc, if_pos ⟨h, hx⟩, if_neg hc]
  exact ⟨rfl, rfl⟩
/-- A write to a disk that is armed with nothing. -/
theorem write_plain (ss : List (List UInt8)) (wr : Int) (hw : 0 ≤ wr) (p : Int) (x : List UInt8) :
    ∃ ss' wr', writeD ⟨ss, 0, 0, false, wr, 0⟩ p x = ⟨ss', 0, 0, false, wr', 0⟩ ∧ ss'.length = ss.length ∧ wr ≤ wr' ∧ wr' ≤ wr + 1 := by
  by_cases h : checkD ⟨ss, 0, 0, false, wr, 0⟩ p = 0 ∧ x.length ≤ 64
  · obtain ⟨_, e⟩ := write_miss (d := ⟨ss, 0, 0, false, wr, 0⟩) h.1 h.2 (show ¬ wr + 1 - 0 = 0 by omega)
    exact ⟨_, _, e, by rw [List.length_set], by show wr ≤ wr + 1; omega, by show wr + 1 ≤ wr + 1; omega⟩
  · refine ⟨ss, wr, ?_, rfl, by omega, by omega⟩
    unfold writeD
    rw [if_neg h]
end Go.Proofs.YtcjmpkfcjcoobaaGreat
