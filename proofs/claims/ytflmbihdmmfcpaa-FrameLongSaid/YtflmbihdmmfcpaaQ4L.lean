/-
  Quoted printable text: how long its lines are, what bytes they have, and what is left without soft ends: plain facts, of no program.
-/
import Derived.Test.YtflmbihdmmfcpaaQ4F
namespace Go.Proofs.Ytflmbihdmmfcpaa

/-- The signs of a line, one by one. -/
def signsQ : List UInt8 → List UInt8
  | [] => []
  | c :: r => signB c (decide (r = [])) ++ signsQ r
/-- Without soft ends: an =, 13 and 10 are passed over. -/
def softQ : List UInt8 → List UInt8
  | [] => []
  | [c] => [c]
  | [c, x] => [c, x]
  | c :: x :: y :: r => if c = 61 ∧ x = 13 ∧ y = 10 then softQ r else c :: softQ (x :: y :: r)
theorem soft_nil : softQ [] = [] := rfl
theorem soft_end (r : List UInt8) : softQ (61 :: 13 :: 10 :: r) = softQ r := by simp [softQ]
theorem soft_cons {c : UInt8} {r : List UInt8} (h : ∀ r', c :: r ≠ 61 :: 13 :: 10 :: r') : softQ (c :: r) = c :: softQ r := by
  match r with
  | [] => rfl
  | [x] => rfl
  | x :: y :: r' =>
    have hn : ¬ (c = 61 ∧ x = 13 ∧ y = 10) := by
      rintro ⟨rfl, rfl, rfl⟩
      exact h r' rfl
    show (if c = 61 ∧ x = 13 ∧ y = 10 then softQ r' else c :: softQ (x :: y :: r')) = _
    rw [if_neg hn]
theorem soft_plain {c : UInt8} (h : c ≠ 61) (r : List UInt8) : softQ (c :: r) = c :: softQ r := soft_cons fun r' e => h (by cases e; rfl)
theorem soft_sign (c : UInt8) (last : Bool) (r : List UInt8) : softQ (signB c last ++ r) = signB c last ++ softQ r := by
  have hc := c.toNat_lt
  rcases sign_ways c last with ⟨hp, h⟩ | ⟨_, h⟩
  · rw [h]
    exact soft_plain (plain_ne hp).1 r
  · rw [h]
    have h1 := dig_range (c.toNat / 16) (by omega)
    have h2 := dig_range (c.toNat % 16) (by omega)
    have n1 : digB (c.toNat / 16) ≠ 61 := fun e => by
      have : (61 : UInt8).toNat = 61 := rfl
      rw [e] at h1
      omega
    have n2 : digB (c.toNat % 16) ≠ 61 := fun e => by
      have : (61 : UInt8).toNat = 61 := rfl
      rw [e] at h2
      omega
    have n3 : digB (c.toNat / 16) ≠ 13 := fun e => by
      have : (13 : UInt8).toNat = 13 := rfl
      rw [e] at h1
      omega
    show softQ (61 :: digB (c.toNat / 16) :: digB (c.toNat % 16) :: r) = _
    rw [soft_cons (fun r' e => by simp only [List.cons.injEq] at e; exact n3 e.2.1), soft_plain n1, soft_plain n2]
    rfl
theorem soft_tell (t : List UInt8) : ∀ (l : List UInt8) (n : Nat), softQ (tellQ n l ++ t) = signsQ l ++ softQ t
  | [], _ => rfl
  | c :: r, n => by
    rw [tellQ, signsQ]
    split
    · rw [List.cons_append, List.cons_append, List.cons_append, soft_end, List.append_assoc, soft_sign, soft_tell t r, List.append_assoc]
    · rw [List.append_assoc, soft_sign, soft_tell t r, List.append_assoc]
theorem soft_join : ∀ ls : List (List UInt8), softQ (joinQ (ls.map (tellQ 0))) = joinQ (ls.map signsQ)
  | [] => rfl
  | [l] => by
    show softQ (tellQ 0 l) = signsQ l
    have := soft_tell [] l 0
    rw [List.append_nil] at this
    rw [this, soft_nil, List.append_nil]
  | l :: m :: ls => by
    have ih := soft_join (m :: ls)
    rw [List.map_cons, join_cons _ (by simp), soft_tell, soft_plain (by decide), soft_plain (by decide), ih]
    show signsQ l ++ 13 :: 10 :: joinQ ((m :: ls).map signsQ) = _
    rw [List.map_cons (a := l), join_cons (signsQ l) (ls := (m :: ls).map signsQ) (by simp)]
/-- SOFT: without its soft ends a told text is the signs of its lines' bytes. -/
theorem soft_enc (s : List UInt8) : softQ (encQ s) = joinQ ((linesQ s).map signsQ) := soft_join _

/-- How long the signs of a line are. -/
theorem signs_len (l : List UInt8) : (signsQ l).length ≤ 3 * l.length := by
  induction l with
  | nil => simp [signsQ]
  | cons c r ih =>
    rw [signsQ, List.length_append, List.length_cons]
    have := sign_len c (decide (r = []))
    omega
/-- A short line is told with no soft end. -/
theorem tell_short : ∀ (l : List UInt8) (n : Nat), n + (signsQ l).length ≤ 75 → tellQ n l = signsQ l
  | [], _, _ => rfl
  | c :: r, n, h => by
    rw [signsQ, List.length_append] at h
    rw [tellQ, if_neg (by omega), signsQ, tell_short r _ (by omega)]
/-- A text with no 13 is one line. -/
theorem lines_one : ∀ s : List UInt8, (∀ c ∈ s, c ≠ 13) → linesQ s = [s]
  | [], _ => rfl
  | [c], _ => rfl
  | c :: d :: r, h => by
    have hc : ¬ (c = 13 ∧ d = 10) := fun e => h c (by simp) e.1
    obtain ⟨l, ls, h1, h2⟩ := lines_cons c d r hc
    rw [lines_one (d :: r) (fun x hx => h x (by simp only [List.mem_cons] at hx ⊢; exact .inr hx))] at h1
    cases h1
    exact h2
/-- How long the signs are, byte by byte. -/
def costQ : List UInt8 → Nat
  | [] => 0
  | c :: r => (if plainQ c (decide (r = [])) then 1 else 3) + costQ r
theorem cost_signs (l : List UInt8) : (signsQ l).length = costQ l := by
  induction l with
  | nil => rfl
  | cons c r ih =>
    rw [signsQ, List.length_append, ih, costQ]
    rcases sign_ways c (decide (r = [])) with ⟨hp, h⟩ | ⟨hp, h⟩
    · rw [h, hp]; rfl
    · rw [h, hp]; rfl
theorem cost_ge (l : List UInt8) : l.length ≤ costQ l := by
  induction l with
  | nil => simp [costQ]
  | cons c r ih =>
    rw [costQ, List.length_cons]
    split <;> omega
theorem cost_eq (l : List UInt8) (h : costQ l = l.length) : signsQ l = l := by
  induction l with
  | nil => rfl
  | cons c r ih =>
    have hg := cost_ge r
    rw [costQ, List.length_cons] at h
    rcases sign_ways c (decide (r = [])) with ⟨hp, hs⟩ | ⟨hp, hs⟩
    · rw [hp] at h
      simp only [if_true] at h
      rw [signsQ, hs, ih (by omega)]
      rfl
    · rw [hp] at h
      simp only [Bool.false_eq_true, if_false] at h
      omega
/-- PLAIN: a short text of one line is its signs. -/
theorem enc_plain {s : List UInt8} (h1 : ∀ c ∈ s, c ≠ 13) (h2 : s.length ≤ 24) : encQ s = signsQ s := by
  unfold encQ
  rw [lines_one s h1]
  show tellQ 0 s = signsQ s
  exact tell_short s 0 (by have := signs_len s; omega)

/-- What the statement on lines looks at, byte by byte: how long the line is by now; the byte before. -/
def scanQ : Nat → UInt8 → List UInt8 → Bool
  | _, p, [] => decide (p ≠ 32 ∧ p ≠ 9)
  | n, _, [c] => decide (n + 1 ≤ 76) && (decide (32 ≤ c.toNat ∧ c.toNat ≤ 126) || decide (c = 9)) && decide (c ≠ 32 ∧ c ≠ 9)
  | n, p, c :: d :: r => if c = 13 ∧ d = 10 then decide (p ≠ 32 ∧ p ≠ 9) && scanQ 0 10 r else decide (n + 1 ≤ 76) && (decide (32 ≤ c.toNat ∧ c.toNat ≤ 126) || decide (c = 9)) && scanQ (n + 1) c (d :: r)
theorem scan_nil (n : Nat) (p : UInt8) : scanQ n p [] = decide (p ≠ 32 ∧ p ≠ 9) := rfl
theorem scan_end (n : Nat) (p : UInt8) (r : List UInt8) : scanQ n p (13 :: 10 :: r) = (decide (p ≠ 32 ∧ p ≠ 9) && scanQ 0 10 r) := by simp [scanQ]
theorem scan_byte {n : Nat} {p c : UInt8} {r : List UInt8} (h : c ≠ 13) : scanQ n p (c :: r) = (decide (n + 1 ≤ 76) && (decide (32 ≤ c.toNat ∧ c.toNat ≤ 126) || decide (c = 9)) && scanQ (n + 1) c r) := by
  match r with
  | [] => rfl
  | d :: r' =>
    show (if c = 13 ∧ d = 10 then _ else _) = _
    rw [if_neg (fun e => h e.1)]
/-- A plain byte stands in a line. -/
theorem plain_in {c : UInt8} {last : Bool} (h : plainQ c last = true) : (decide (32 ≤ c.toNat ∧ c.toNat ≤ 126) || decide (c = 9)) = true := by
  unfold plainQ at h
  simp only [Bool.or_eq_true, Bool.and_eq_true, decide_eq_true_eq] at h ⊢
  rcases h with ⟨⟨h1, h2⟩, _⟩ | ⟨h1 | h1, _⟩
  · exact .inl ⟨by omega, h2⟩
  · subst h1; exact .inl (by decide)
  · exact .inr h1
/-- The last byte of a sign: a blank or a tab only where the byte is not the last one of its line. -/
theorem scan_sign {n : Nat} {p c : UInt8} {last : Bool} {r : List UInt8} (h : n + (signB c last).length ≤ 76) :
    ∃ q : UInt8, (last = true → q ≠ 32 ∧ q ≠ 9) ∧ scanQ n p (signB c last ++ r) = scanQ (n + (signB c last).length) q r := by
  have hc := c.toNat_lt
  rcases sign_ways c last with ⟨hp, hs⟩ | ⟨hp, hs⟩
  · rw [hs] at h ⊢
    refine ⟨c, fun hl => ?_, ?_⟩
    · subst hl
      unfold plainQ at hp
      simp only [Bool.not_true, Bool.and_false, Bool.or_false, Bool.and_eq_true, decide_eq_true_eq] at hp
      constructor
      · rintro rfl; revert hp; decide
      · rintro rfl; revert hp; decide
    · show scanQ n p (c :: r) = _
      rw [scan_byte (plain_ne hp).2.1, plain_in hp, decide_eq_true (by simpa using h)]
      rfl
  · rw [hs] at h ⊢
    have h1 := dig_range (c.toNat / 16) (by omega)
    have h2 := dig_range (c.toNat % 16) (by omega)
    have f32 : (32 : UInt8).toNat = 32 := rfl
    have f9 : (9 : UInt8).toNat = 9 := rfl
    have f13 : (13 : UInt8).toNat = 13 := rfl
    simp only [List.length_cons, List.length_nil] at h
    refine ⟨digB (c.toNat % 16), fun _ => ⟨fun e => ?_, fun e => ?_⟩, ?_⟩
    · rw [e] at h2; omega
    · rw [e] at h2; omega
    · show scanQ n p (61 :: digB (c.toNat / 16) :: digB (c.toNat % 16) :: r) = _
      rw [scan_byte (by decide), scan_byte (fun e => by rw [e] at h1; omega), scan_byte (fun e => by rw [e] at h2; omega)]
      rw [decide_eq_true (show n + 1 ≤ 76 by omega), decide_eq_true (show n + 1 + 1 ≤ 76 by omega), decide_eq_true (show n + 1 + 1 + 1 ≤ 76 by omega),
        decide_eq_true (show 32 ≤ (digB (c.toNat / 16)).toNat ∧ (digB (c.toNat / 16)).toNat ≤ 126 by omega), decide_eq_true (show 32 ≤ (digB (c.toNat % 16)).toNat ∧ (digB (c.toNat % 16)).toNat ≤ 126 by omega),
        show (decide (32 ≤ (61 : UInt8).toNat ∧ (61 : UInt8).toNat ≤ 126) || decide ((61 : UInt8) = 9)) = true by decide]
      rfl
/-- A told line, whatever stands behind it, if that is an end or nothing. -/
theorem scan_tell (t : List UInt8) (ht : ∀ n p, p ≠ 32 ∧ p ≠ 9 → n ≤ 75 → scanQ n p t = true) : ∀ (l : List UInt8) (n : Nat) (p : UInt8), n ≤ 75 → (l = [] → p ≠ 32 ∧ p ≠ 9) → scanQ n p (tellQ n l ++ t) = true
  | [], n, p, hn, hp => ht n p (hp rfl) hn
  | c :: r, n, p, hn, _ => by
    have hl := sign_len c (decide (r = []))
    rw [tellQ]
    split
    · rw [List.cons_append, List.cons_append, List.cons_append, scan_byte (by decide), decide_eq_true (show n + 1 ≤ 76 by omega), show (decide (32 ≤ (61 : UInt8).toNat ∧ (61 : UInt8).toNat ≤ 126) || decide ((61 : UInt8) = 9)) = true by decide, scan_end]
      rw [show decide ((61 : UInt8) ≠ 32 ∧ (61 : UInt8) ≠ 9) = true by decide, List.append_assoc]
      simp only [Bool.true_and]
      obtain ⟨q, hq, e⟩ := scan_sign (n := 0) (p := 10) (c := c) (last := decide (r = [])) (r := tellQ (signB c (decide (r = []))).length r ++ t) (by omega)
      rw [e, Nat.zero_add]
      exact scan_tell t ht r _ q (by omega) (fun hr => hq (decide_eq_true hr))
    · rename_i h75
      rw [List.append_assoc]
      obtain ⟨q, hq, e⟩ := scan_sign (n := n) (p := p) (c := c) (last := decide (r = [])) (r := tellQ (n + (signB c (decide (r = []))).length) r ++ t) (by omega)
      rw [e]
      exact scan_tell t ht r _ q (by omega) (fun hr => hq (decide_eq_true hr))
theorem scan_join : ∀ (ls : List (List UInt8)) (p : UInt8), p ≠ 32 ∧ p ≠ 9 → scanQ 0 p (joinQ (ls.map (tellQ 0))) = true
  | [], p, hp => by
    show scanQ 0 p [] = true
    rw [scan_nil]
    exact decide_eq_true hp
  | [l], p, hp => by
    show scanQ 0 p (tellQ 0 l) = true
    have := scan_tell [] (fun n q hq _ => by rw [scan_nil]; exact decide_eq_true hq) l 0 p (by omega) (fun _ => hp)
    rwa [List.append_nil] at this
  | l :: m :: ls, p, hp => by
    rw [List.map_cons, join_cons _ (by simp)]
    refine scan_tell _ (fun n q hq _ => ?_) l 0 p (by omega) (fun _ => hp)
    rw [scan_end, decide_eq_true hq, scan_join (m :: ls) 10 (by decide)]
    rfl
/-- LINES: no told line is too long, none ends with a blank or a tab, each byte is printable, a blank, a tab, or of an end. -/
theorem scan_enc (s : List UInt8) : scanQ 0 10 (encQ s) = true := scan_join _ 10 (by decide)
end Go.Proofs.Ytflmbihdmmfcpaa
