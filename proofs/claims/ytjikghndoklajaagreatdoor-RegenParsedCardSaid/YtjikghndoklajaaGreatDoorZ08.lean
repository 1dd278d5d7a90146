/-
  Texts of this proof, put together: M13C, M13T, M13D.
-/
import Derived.Test.YtjikghndoklajaaGreatDoorZ07
namespace Go.Proofs.YtjikghndoklajaaGreatDoor

theorem coded_b64 (s : TextH) : leafM 1 (foldB (encB s)) = some s := by
  show unfoldB _ = _
  exact unfold_fold s
theorem coded_qp (s : TextH) : leafM 2 (encQ s) = some s := by
  show decQ _ = _
  exact decQ_enc s
end Go.Proofs.YtjikghndoklajaaGreatDoor
namespace Go.Proofs.YtjikghndoklajaaGreatDoor

mutual
def sameT : TreeM → TreeM → Bool
  | .mk f t b l, .mk f2 t2 b2 l2 => decide (f = f2) && (decide (t = t2) && (decide (b = b2) && (decide (l.length = l2.length) && samesT l l2)))
def samesT : List TreeM → List TreeM → Bool
  | [], _ => true
  | _ :: _, [] => true
  | p :: l, q :: k => sameT p q && samesT l k
end
mutual
theorem same_iff : ∀ (p q : TreeM), sameT p q = true ↔ p = q
  | .mk f t b l, .mk f2 t2 b2 l2 => by
    unfold sameT
    simp only [Bool.and_eq_true, decide_eq_true_eq]
    constructor
    · rintro ⟨rfl, rfl, rfl, h4, h5⟩
      rw [(sames_iff l l2 h4).1 h5]
    · intro h
      obtain ⟨rfl, rfl, rfl, rfl⟩ := TreeM.mk.inj h
      exact ⟨rfl, rfl, rfl, rfl, (sames_iff l l rfl).2 rfl⟩
theorem sames_iff : ∀ (l k : List TreeM), l.length = k.length → (samesT l k = true ↔ l = k)
  | [], [], _ => ⟨fun _ => rfl, fun _ => rfl⟩
  | [], _ :: _, h => by cases h
  | _ :: _, [], h => by cases h
  | p :: l, q :: k, h => by
    unfold samesT
    rw [Bool.and_eq_true, same_iff p q, sames_iff l k (Nat.succ.inj h)]
    constructor
    · rintro ⟨rfl, rfl⟩
      rfl
    · intro e
      exact List.cons.inj e
end
instance treeDec : DecidableEq TreeM := fun p q => decidable_of_iff (sameT p q = true) (same_iff p q)
mutual
def leavesM : TreeM → List TreeM
  | .mk f t b l => if l.isEmpty then [.mk f t b []] else leavessM l
def leavessM : List TreeM → List TreeM
  | [] => []
  | p :: l => leavesM p ++ leavessM l
end
theorem count_pos : ∀ p : TreeM, 1 ≤ countM p
  | .mk _ _ _ _ => by
    unfold countM
    omega
theorem count_mem : ∀ {l : List TreeM} {p : TreeM}, p ∈ l → countM p ≤ countsM l
  | q :: l, p, h => by
    unfold countsM
    rcases List.mem_cons.1 h with rfl | h
    · omega
    · have := count_mem h
      omega
theorem count_parts (p : TreeM) : countM p = 1 + countsM p.parts := by
  obtain ⟨_, _, _, _⟩ := p
  unfold countM
  rfl
theorem counts_take (l : List TreeM) (i : Nat) (h : i < l.length) : countsM (l.take (i + 1)) = countsM (l.take i) + countM l[i] := by
  induction l generalizing i with
  | nil => cases h
  | cons p l ih =>
    match i, h with
    | 0, _ =>
      show countM p + 0 = 0 + countM p
      omega
    | i + 1, h =>
      show countM p + countsM (l.take (i + 1)) = countM p + countsM (l.take i) + _
      rw [ih i (by simpa using h)]
      simp only [List.getElem_cons_succ]
      omega
def unfieldM (l : List FieldH) : List FieldH := l.filter fun f => !(sameH f.1 ctM) && !(sameH f.1 cteM)
theorem unfield_take (l : List FieldH) (i : Nat) (h : i < l.length) : unfieldM (l.take (i + 1)) = unfieldM (l.take i) ++ (if (!(sameH l[i].1 ctM) && !(sameH l[i].1 cteM)) = true then [l[i]] else []) := by
  unfold unfieldM
  rw [List.take_succ_eq_append_getElem h, List.filter_append]
  congr 1
  rw [List.filter_cons, List.filter_nil]
end Go.Proofs.YtjikghndoklajaaGreatDoor
namespace Go.Proofs.YtjikghndoklajaaGreatDoor

def preM (mk s : TextH) : Bool := (13 :: 10 :: mk).isPrefixOf s
theorem next_at {mk : TextH} : ∀ (s : TextH) (j : Nat), preM mk (s.drop j) = true → (∀ i, i < j → preM mk (s.drop i) = false) → nextM mk s = some (s.take j, s.drop (j + (mk.length + 2)))
  | [], j, h, _ => by
    rw [List.drop_nil] at h
    cases h
  | c :: s, 0, h, _ => by
    unfold nextM
    rw [if_pos (show (13 :: 10 :: mk).isPrefixOf (c :: s) = true from h), Nat.zero_add]
    rfl
  | c :: s, j + 1, h, h2 => by
    have h0 := h2 0 (by omega)
    have h0 : (13 :: 10 :: mk).isPrefixOf (c :: s) = false := h0
    have ih := next_at s j h (fun i hi => h2 (i + 1) (by omega))
    unfold nextM
    rw [if_neg (by rw [h0]; decide), ih, show j + 1 + (mk.length + 2) = (j + (mk.length + 2)) + 1 by omega]
    rfl
end Go.Proofs.YtjikghndoklajaaGreatDoor
