/-
  Texts of this proof, put together: Conv, Turn, StrL, Q5P, FrD.
-/
import Derived.Test.YtjikghndoklajaaGreatDoorRows
import Derived.WalkKit
import Derived.WalkSpells
import Derived.WalkLawsBesides
import Derived.Laws.BytesArg
import Derived.Laws.AppendOwn
import Derived.Lib.AppendStr
import Derived.Lib.UnsafeStr
import Derived.Below
import Derived.Lib.Hide
import Derived.Maps.AppendAt
import Derived.Test.YtjikghndoklajaaGreatDoorZ05
import Derived.Lib.Index
import Derived.Lib.Bytealg
import Derived.Lib.Strings
import Derived.Test.YtjikghndoklajaaGreatDoorZ12
import Derived.Test.YtjikghndoklajaaGreatDoorZ01
import Derived.BigQuiet
import Derived.WalkSmall
import Derived.Maps.OwnSet
import Derived.LoopIn
import Derived.Deep.LoopGhost
namespace Go.Proofs.YtjikghndoklajaaGreatDoor
open Go.RowKit

theorem ownsRow_below4 {w w' : World} {B e size n : Nat} {v : Value} {xs : List Value} (h : w.ownsRow B e size v n xs) (hb : Below w.heap.size w w') : w'.ownsRow B e size v n xs :=
  ⟨h.1, h.2.imp id fun ⟨g, cap, cur, h1, h2, h3, h4⟩ => ⟨g, cap, cur, h1, h2, (hb.block g (by
    rcases Nat.lt_or_ge g w.heap.size with h | h
    · exact h
    · rw [Array.getElem?_eq_none h] at h3; cases h3)).trans h3, h4⟩⟩
end Go.Proofs.YtjikghndoklajaaGreatDoor
namespace Go.Proofs.YtjikghndoklajaaGreatDoor
open Go.RowKit

structure Turned (S : Nat → Prop) (w w' : World) : Prop where
  os : w'.os = w.os
  tape : w'.tape = w.tape
  output : w'.output = w.output
  size : w.heap.size ≤ w'.heap.size
  block : ∀ k, k < w.heap.size → ¬ S k → w'.heap[k]? = w.heap[k]?

section
variable {S T : Nat → Prop} {w w' w'' : World}
theorem Turned.refl (S : Nat → Prop) (w : World) : Turned S w w := ⟨rfl, rfl, rfl, Nat.le_refl _, fun _ _ _ => rfl⟩
theorem Turned.trans (h : Turned S w w') (k : Turned T w' w'') (hT : ∀ b, T b → S b ∨ w.heap.size ≤ b) : Turned S w w'' :=
  ⟨k.os.trans h.os, k.tape.trans h.tape, k.output.trans h.output, Nat.le_trans h.size k.size, fun i hi hs =>
    (k.block i (Nat.lt_of_lt_of_le hi h.size) (fun e => (hT i e).elim hs (fun h => by omega))).trans (h.block i hi hs)⟩
theorem Turned.below {B : Nat} (h : Turned S w w') (hB : B ≤ w.heap.size) (hS : ∀ b, S b → B ≤ b) : Below B w w' :=
  ⟨h.os, h.tape, h.output, h.size, fun k hk => h.block k (Nat.lt_of_lt_of_le hk hB) (fun e => by have := hS k e; omega)⟩
theorem Turned.set {j : Nat} {N : Nat} {v : Value} (hN : S N) : Turned S w (w.setCell ⟨N, j, none⟩ v) :=
  ⟨rfl, rfl, rfl, by simp [World.setCell], fun k _ hs => Below.heap_setCell w ⟨N, j, none⟩ v k (fun e => hs (by rw [e]; exact hN))⟩
theorem Turned.drew : Turned S w w.drew := ⟨rfl, rfl, rfl, Nat.le_refl _, fun _ _ _ => rfl⟩
theorem Turned.heap (h : Turned S w w') {k : Nat} {o : Obj} (hk : w.heap[k]? = some o) (hs : ¬ S k) : w'.heap[k]? = some o :=
  (h.block k (Array.getElem?_eq_some_iff.1 hk).1 hs).trans hk
theorem Turned.row {B e size n : Nat} {v : Value} {xs : List Value} (h : Turned S w w') (hr : w.ownsRow B e size v n xs) (hs : ∀ b, v.ownBlock = some b → ¬ S b) : w'.ownsRow B e size v n xs := by
  refine ⟨hr.1, hr.2.imp id ?_⟩
  rintro ⟨g, cap, cur, rfl, h2, h3, h4⟩
  exact ⟨g, cap, cur, rfl, h2, h.heap h3 (hs g rfl), h4⟩
end
theorem row_block {w : World} {B e size n : Nat} {v : Value} {xs : List Value} (hr : w.ownsRow B e size v n xs) {b : Nat} (hb : v.ownBlock = some b) : B ≤ b ∧ ∃ cur, w.heap[b]? = some (.cells cur e (0, 0)) := by
  rcases hr.2 with ⟨rfl, _⟩ | ⟨g, cap, cur, rfl, h2, h3, _⟩
  · cases hb
  · cases hb
    exact ⟨h2, cur, h3⟩
theorem row_slice {w : World} {B e size n : Nat} {v : Value} {xs : List Value} (hr : w.ownsRow B e size v n xs) : ∃ ao cap, v = .slice ao n cap := by
  rcases hr.2 with ⟨rfl, rfl⟩ | ⟨g, cap, cur, rfl, _⟩
  · exact ⟨_, _, rfl⟩
  · exact ⟨_, _, rfl⟩
theorem row_more {w : World} {B B' e size n : Nat} {v : Value} {xs : List Value} (hr : w.ownsRow B e size v n xs) (h : B' ≤ B) : w.ownsRow B' e size v n xs :=
  ⟨hr.1, hr.2.imp id fun ⟨g, cap, cur, h1, h2, h3⟩ => ⟨g, cap, cur, h1, Nat.le_trans h h2, h3⟩⟩

def FreshF (w : World) (v v' : Value) : Prop := ∀ b, v'.ownBlock = some b → v.ownBlock = some b ∨ w.heap.size ≤ b

section
variable {w w' : World} {v v' : Value}
theorem FreshF.refl (w : World) (v : Value) : FreshF w v v := fun _ h => .inl h
theorem FreshF.trans {x : Value} (f : FreshF w v v') (g : FreshF w' v' x) (hs : w.heap.size ≤ w'.heap.size) : FreshF w v x := fun b e => by
  rcases g b e with e | hb
  · exact f b e
  · exact .inr (by omega)
theorem FreshF.none (w : World) (v : Value) : FreshF w v (.slice none 0 0) := fun _ e => by cases e
end
def ApartS (S T : Nat → Prop) : Prop := ∀ b, S b → ¬ T b
theorem ApartS.symm {S T : Nat → Prop} (h : ApartS S T) : ApartS T S := fun b h1 h2 => h b h2 h1
theorem ApartS.turn {S S' T : Nat → Prop} {w : World} (h : ApartS S T) (hT : ∀ b, T b → b < w.heap.size) (hf : ∀ b, S' b → S b ∨ w.heap.size ≤ b) : ApartS S' T := fun b h1 h2 => by
  rcases hf b h1 with h1 | h1
  · exact h b h1 h2
  · have := hT b h2
    omega
end Go.Proofs.YtjikghndoklajaaGreatDoor
namespace Go.Proofs.YtjikghndoklajaaGreatDoor
open Go.RowKit

def Strs (w : World) (B : Nat) (A : Option Addr) (n c : Nat) (ss : List ByteArray) : Prop :=
  ss.length = n ∧ ((A = none ∧ n = 0 ∧ c = 0) ∨ ∃ ad, A = some ad ∧ (n = 0 ∨ ∃ b off, ad = ⟨b, off, none⟩ ∧ b < B ∧ ∀ j, j < n → w.cell? ⟨b, off + j, none⟩ = some (.string (ss.getD j ByteArray.empty))))

section
variable {w w' : World} {B B' n c : Nat} {A : Option Addr} {ss : List ByteArray}
theorem Strs.len (h : Strs w B A n c ss) : ss.length = n := h.1
theorem Strs.at_ (h : Strs w B A n c ss) {k : Nat} (hk : k < n) : ∃ b off, A = some ⟨b, off, none⟩ ∧ b < B ∧ ∀ j, j < n → w.cell? ⟨b, off + j, none⟩ = some (.string (ss.getD j ByteArray.empty)) := by
  rcases h.2 with ⟨_, h0, _⟩ | ⟨ad, rfl, h0 | ⟨b, off, rfl, hb, hc⟩⟩
  · omega
  · omega
  · exact ⟨b, off, rfl, hb, hc⟩
theorem Strs.keep (h : Strs w B A n c ss) (hk : ∀ p : Addr, p.block < B → w'.cell? p = w.cell? p) : Strs w' B A n c ss := by
  refine ⟨h.1, ?_⟩
  rcases h.2 with h0 | ⟨ad, rfl, h0 | ⟨b, off, rfl, hb, hc⟩⟩
  · exact .inl h0
  · exact .inr ⟨ad, rfl, .inl h0⟩
  · exact .inr ⟨_, rfl, .inr ⟨b, off, rfl, hb, fun j hj => (hk _ hb).trans (hc j hj)⟩⟩
theorem Strs.more (h : Strs w B A n c ss) (hB : B ≤ B') : Strs w B' A n c ss := by
  refine ⟨h.1, ?_⟩
  rcases h.2 with h0 | ⟨ad, rfl, h0 | ⟨b, off, rfl, hb, hc⟩⟩
  · exact .inl h0
  · exact .inr ⟨ad, rfl, .inl h0⟩
  · exact .inr ⟨_, rfl, .inr ⟨b, off, rfl, by omega, hc⟩⟩
theorem Strs.below (h : Strs w B A n c ss) (hb : Below B w w') : Strs w' B A n c ss := h.keep fun _ hp => hb.cell hp
theorem Strs.alloc (h : Strs w B A n c ss) (hB : B ≤ w.heap.size) (o : Obj) : Strs (w.alloc o) B A n c ss := h.below ((Below.refl _ _).alloc hB o)
theorem Strs.of_own {base : Nat} {v : Value} {e : TypeId} (h : w.ownsRow base e 1 v n (ss.map .string)) : ∃ A c, v = .slice A n c ∧ Strs w w.heap.size A n c ss := by
  have hl : ss.length = n := by simpa using h.1
  rcases h.2 with ⟨rfl, rfl⟩ | ⟨g, cap, cur, rfl, hb, hg, hnc, hcm, hcs, ht⟩
  · exact ⟨none, 0, rfl, hl, .inl ⟨rfl, rfl, rfl⟩⟩
  · refine ⟨_, _, rfl, hl, .inr ⟨_, rfl, .inr ⟨g, 0, rfl, ?_, fun j hj => ?_⟩⟩⟩
    · exact (h.lt g rfl).2
    · have hc := h.cells (g := g) rfl j (.string (ss.getD j ByteArray.empty)) (by rw [List.getElem?_map, List.getElem?_eq_getElem (by omega)]; simp [List.getD, List.getElem?_eq_getElem (show j < ss.length by omega)])
      rw [Addr.add_lit] at hc
      simpa using hc
end

end Go.Proofs.YtjikghndoklajaaGreatDoor
namespace Go.Proofs.YtjikghndoklajaaGreatDoor

theorem pre2 (c d : UInt8) (r : List UInt8) : List.isPrefixOf [13, 10] (c :: d :: r) = decide (c = 13 ∧ d = 10) := by
  simp only [List.isPrefixOf, Bool.and_true]
  rw [Bool.eq_iff_iff]
  simp only [Bool.and_eq_true, beq_iff_eq, decide_eq_true_eq]
  constructor <;> rintro ⟨h1, h2⟩ <;> exact ⟨h1.symm, h2.symm⟩
theorem lines_search : ∀ l : List UInt8, (Lib.index l [13, 10] = -1 ∧ linesQ l = [l]) ∨ ∃ i : Nat, Lib.index l [13, 10] = i ∧ i + 2 ≤ l.length ∧ linesQ l = l.take i :: linesQ (l.drop (i + 2))
  | [] => .inl ⟨rfl, rfl⟩
  | [c] => .inl ⟨by simp [Lib.index, List.isPrefixOf], rfl⟩
  | c :: d :: r => by
    by_cases h : c = 13 ∧ d = 10
    · refine .inr ⟨0, ?_, by simp, ?_⟩
      · rw [Lib.index, pre2, decide_eq_true h]
        rfl
      · rw [linesQ, if_pos h]
        rfl
    · obtain ⟨l, ls, h1, h2⟩ := lines_cons c d r h
      rcases lines_search (d :: r) with ⟨hi, hl⟩ | ⟨i, hi, hle, hl⟩
      · left
        rw [h1] at hl
        cases hl
        refine ⟨?_, h2⟩
        rw [Lib.index, pre2, decide_eq_false h, hi]
        rfl
      · right
        rw [h1] at hl
        cases hl
        refine ⟨i + 1, ?_, by simp at hle ⊢; omega, ?_⟩
        · rw [Lib.index, pre2, decide_eq_false h, hi, if_neg (by simp), if_neg (by rw [beq_iff_eq]; omega)]
          push_cast
          rfl
        · rw [h2]
          rfl
theorem lines_none {l : List UInt8} (h : Lib.index l [13, 10] = -1) : linesQ l = [l] := by
  rcases lines_search l with ⟨_, h2⟩ | ⟨i, h1, _⟩
  · exact h2
  · rw [h] at h1; omega
theorem lines_some {l : List UInt8} {i : Nat} (h : Lib.index l [13, 10] = i) : i + 2 ≤ l.length ∧ linesQ l = l.take i :: linesQ (l.drop (i + 2)) := by
  rcases lines_search l with ⟨h1, _⟩ | ⟨j, h1, h2, h3⟩
  · rw [h] at h1; omega
  · obtain rfl : i = j := by omega
    exact ⟨h2, h3⟩

def addQ (n : Nat) (x : List UInt8) : List UInt8 := if n + x.length > 75 then [61, 13, 10] ++ x else x
def roomQ (n : Nat) (x : List UInt8) : Nat := if n + x.length > 75 then x.length else n + x.length
theorem tell_cons (n : Nat) (c : UInt8) (r : List UInt8) : tellQ n (c :: r) = addQ n (signB c (decide (r = []))) ++ tellQ (roomQ n (signB c (decide (r = [])))) r := by
  rw [tellQ]
  unfold addQ roomQ
  split
  · rfl
  · rfl
theorem room_le {n : Nat} {x : List UInt8} (h : x.length ≤ 3) : roomQ n x ≤ 75 := by
  unfold roomQ
  split <;> omega
theorem add_len (n : Nat) (x : List UInt8) : (addQ n x).length ≤ x.length + 3 := by
  unfold addQ
  split <;> simp <;> omega

def soFarQ (pre : List (List UInt8)) : List UInt8 := joinQ (pre.map (tellQ 0))
def betweenQ (pre : List (List UInt8)) : List UInt8 := if pre = [] then [] else [13, 10]
theorem join_snoc (l : List UInt8) : ∀ a : List (List UInt8), a ≠ [] → joinQ (a ++ [l]) = joinQ a ++ (13 :: 10 :: l) := fun a h => by
  rw [join_append a [l] h (by simp)]
  rfl
theorem soFar_snoc (pre : List (List UInt8)) (x : List UInt8) : soFarQ (pre ++ [x]) = soFarQ pre ++ betweenQ pre ++ tellQ 0 x := by
  unfold soFarQ betweenQ
  rw [List.map_append]
  by_cases h : pre = []
  · subst h
    rfl
  · rw [if_neg h, List.map_singleton, join_snoc _ _ (by simpa using h), List.append_assoc]
    rfl
theorem soFar_len {s : List UInt8} {pre rest : List (List UInt8)} {x : List UInt8} (h : linesQ s = pre ++ x :: rest) : (soFarQ pre).length + (betweenQ pre).length + (tellQ 0 x).length ≤ 6 * s.length := by
  have h1 := upto_len (linesQ s) (pre.length + 1)
  have h2 := encQ_len s
  unfold encQ at h2
  have e : uptoQ (linesQ s) (pre.length + 1) = soFarQ (pre ++ [x]) := by
    unfold uptoQ soFarQ
    rw [h]
    congr 2
    rw [show pre ++ x :: rest = (pre ++ [x]) ++ rest by simp, List.take_append_of_le_length (by simp)]
    rw [List.take_of_length_le (by simp)]
  rw [e, soFar_snoc] at h1
  simp only [List.length_append] at h1
  omega

def digI : Option Nat → Int
  | some v => v
  | none => -1
def twoQ : Option Nat → Option Nat → List UInt8 → Option (List UInt8 × List UInt8)
  | some a, some b, r => some ([UInt8.ofNat (16 * a + b)], r)
  | _, _, _ => none
theorem twoQ_some {u v : Option Nat} {r p q : List UInt8} (h : twoQ u v r = some (p, q)) : p.length = 1 ∧ q = r := by
  cases u with
  | none => cases h
  | some a => cases v with
    | none => cases h
    | some b => cases h; exact ⟨rfl, rfl⟩
def cutQ (s : List UInt8) : Option (List UInt8 × List UInt8) :=
  if List.isPrefixOf [13, 10] s then some ([13, 10], s.drop 2)
  else if List.isPrefixOf [61, 13, 10] s then some ([], s.drop 3)
  else match s with
    | [] => none
    | c :: r => if c ≠ 61 then (if plainQ c false then some ([c], r) else none) else
      match r with
      | x :: y :: r' => twoQ (undigB x) (undigB y) r'
      | _ => none
theorem cut_len {s p r : List UInt8} (h : cutQ s = some (p, r)) : r.length < s.length ∧ p.length + r.length ≤ s.length := by
  unfold cutQ at h
  split at h
  · rename_i hp
    obtain ⟨t, rfl⟩ := List.isPrefixOf_iff_prefix.1 hp
    cases h
    simp; omega
  · split at h
    · rename_i hp
      obtain ⟨t, rfl⟩ := List.isPrefixOf_iff_prefix.1 hp
      cases h
      simp; omega
    · split at h
      · cases h
      · rename_i c t
        split at h
        · split at h
          · cases h
            simp only [List.length_cons, List.length_nil]
            omega
          · cases h
        · split at h
          · rename_i x y r'
            obtain ⟨h1, rfl⟩ := twoQ_some h
            simp only [List.length_cons, h1]
            omega
          · cases h
def readN : Nat → List UInt8 → Option (List UInt8)
  | 0, s => if s = [] then some [] else none
  | n + 1, s => if s = [] then some [] else match cutQ s with
    | none => none
    | some (p, r) => (readN n r).map (p ++ ·)
theorem readN_nil (n : Nat) : readN n [] = some [] := by cases n <;> simp [readN]
theorem readN_more : ∀ (n m : Nat) (s : List UInt8), s.length ≤ n → n ≤ m → readN m s = readN n s
  | 0, m, s, h, _ => by
    obtain rfl : s = [] := List.eq_nil_of_length_eq_zero (by omega)
    rw [readN_nil, readN_nil]
  | n + 1, m, s, h, hm => by
    obtain ⟨m', rfl⟩ : ∃ m', m = m' + 1 := ⟨m - 1, by omega⟩
    by_cases e : s = []
    · subst e
      rw [readN_nil, readN_nil]
    · rw [readN, readN, if_neg e, if_neg e]
      cases hc : cutQ s with
      | none => rfl
      | some pr =>
        obtain ⟨p, r⟩ := pr
        have hl := (cut_len hc).1
        simp only
        rw [readN_more n m' r (by omega) (by omega)]
def readQ (s : List UInt8) : Option (List UInt8) := readN s.length s
theorem readQ_nil : readQ [] = some [] := rfl
theorem readQ_cut {s p r : List UInt8} (h : cutQ s = some (p, r)) : readQ s = (readQ r).map (p ++ ·) := by
  have hl := (cut_len h).1
  unfold readQ
  obtain ⟨n, hn⟩ : ∃ n, s.length = n + 1 := ⟨s.length - 1, by omega⟩
  have hne : s ≠ [] := fun e => by rw [e] at hn; cases hn
  rw [hn, readN, if_neg hne, h]
  simp only
  rw [readN_more r.length n r (Nat.le_refl _) (by omega)]
theorem readQ_none {s : List UInt8} (hne : s ≠ []) (h : cutQ s = none) : readQ s = none := by
  unfold readQ
  cases s with
  | nil => exact absurd rfl hne
  | cons c r =>
    rw [List.length_cons, readN, if_neg (by simp), h]
theorem plain_any {c : UInt8} {last : Bool} (h : plainQ c last = true) : plainQ c false = true := by
  unfold plainQ at h ⊢
  simp only [Bool.or_eq_true, Bool.and_eq_true] at h ⊢
  rcases h with h | ⟨h, _⟩
  · exact .inl h
  · exact .inr ⟨h, rfl⟩
theorem read_sign (c : UInt8) (last : Bool) (r : List UInt8) : readQ (signB c last ++ r) = (readQ r).map (c :: ·) := by
  rcases sign_ways c last with ⟨hp, h⟩ | ⟨_, h⟩
  · rw [h]
    have ne := plain_ne hp
    have hc : cutQ ([c] ++ r) = some ([c], r) := by
      have hp1 : List.isPrefixOf [13, 10] ([c] ++ r) = false := by
        cases r <;> simp [List.isPrefixOf] <;> (intro e; exact absurd e.symm ne.2.1)
      have hp2 : List.isPrefixOf [61, 13, 10] ([c] ++ r) = false := by
        simp [List.isPrefixOf] <;> (intro e; exact absurd e.symm ne.1)
      unfold cutQ
      rw [hp1, hp2, if_neg (by simp), if_neg (by simp)]
      show (if c ≠ 61 then (if plainQ c false then some ([c], r) else none) else _) = _
      rw [if_pos ne.1, if_pos (plain_any hp)]
    rw [readQ_cut hc]
    rfl
  · rw [h]
    have hl := c.toNat_lt
    have h1 := dig_range (c.toNat / 16) (by omega)
    have hc : cutQ ([61, digB (c.toNat / 16), digB (c.toNat % 16)] ++ r) = some ([c], r) := by
      have hd : (13 : UInt8) ≠ digB (c.toNat / 16) := fun e => by
        have := congrArg UInt8.toNat e
        have h13 : (13 : UInt8).toNat = 13 := rfl
        omega
      have hp1 : List.isPrefixOf [13, 10] ([61, digB (c.toNat / 16), digB (c.toNat % 16)] ++ r) = false := by
        simp [List.isPrefixOf]
      have hp2 : List.isPrefixOf [61, 13, 10] ([61, digB (c.toNat / 16), digB (c.toNat % 16)] ++ r) = false := by
        simp [List.isPrefixOf, hd]
      unfold cutQ
      rw [hp1, hp2, if_neg (by simp), if_neg (by simp)]
      simp only [List.cons_append, List.nil_append, ne_eq, not_true, if_false]
      rw [undig_dig _ (by omega), undig_dig _ (by omega), twoQ]
      rw [show 16 * (c.toNat / 16) + c.toNat % 16 = c.toNat by omega, UInt8.ofNat_toNat]
    rw [readQ_cut hc]
    rfl
theorem read_soft (r : List UInt8) : readQ (61 :: 13 :: 10 :: r) = readQ r := by
  have hc : cutQ (61 :: 13 :: 10 :: r) = some ([], r) := by
    unfold cutQ
    rw [if_neg (by simp [List.isPrefixOf]), if_pos (by simp [List.isPrefixOf])]
    rfl
  rw [readQ_cut hc]
  cases readQ r <;> rfl
theorem read_end (r : List UInt8) : readQ (13 :: 10 :: r) = (readQ r).map ([13, 10] ++ ·) := by
  have hc : cutQ (13 :: 10 :: r) = some ([13, 10], r) := by
    unfold cutQ
    rw [if_pos (by simp [List.isPrefixOf])]
    rfl
  rw [readQ_cut hc]
theorem read_tell (t : List UInt8) : ∀ (l : List UInt8) (n : Nat), readQ (tellQ n l ++ t) = (readQ t).map (l ++ ·)
  | [], n => by
    rw [tellQ]
    cases h : readQ t <;> simp [h]
  | c :: r, n => by
    rw [tellQ]
    split
    · rw [List.cons_append, List.cons_append, List.cons_append, read_soft, List.append_assoc, read_sign, read_tell t r]
      cases readQ t <;> rfl
    · rw [List.append_assoc, read_sign, read_tell t r]
      cases readQ t <;> rfl
theorem read_join : ∀ ls : List (List UInt8), readQ (joinQ (ls.map (tellQ 0))) = some (joinQ ls)
  | [] => rfl
  | [l] => by
    show readQ (tellQ 0 l) = some l
    have := read_tell [] l 0
    rw [List.append_nil] at this
    rw [this, readQ_nil]
    simp
  | l :: m :: ls => by
    have ih := read_join (m :: ls)
    rw [List.map_cons, join_cons _ (by simp), read_tell, read_end, ih]
    show some (l ++ 13 :: 10 :: joinQ (m :: ls)) = _
    rw [join_cons l (ls := m :: ls) (by simp)]
theorem read_enc (s : List UInt8) : readQ (encQ s) = some s := by
  unfold encQ
  rw [read_join, join_lines]
theorem read_dec (t : List UInt8) : decQ t = (match readQ t with
    | some s => if encQ s = t then some s else none
    | none => none) := by
  refine (decQ_only (fun s h => ?_) (fun s h => ?_)).symm
  · cases hr : readQ t with
    | none => rw [hr] at h; cases h
    | some u =>
      rw [hr] at h
      simp only at h
      by_cases e : encQ u = t
      · rw [if_pos e] at h
        cases h
        exact e
      · rw [if_neg e] at h
        cases h
  · have hr : readQ t = some s := by rw [← h]; exact read_enc s
    rw [hr]
    simp only
    rw [if_pos h]
theorem readN_len : ∀ (n : Nat) (s l : List UInt8), readN n s = some l → l.length ≤ s.length
  | 0, s, l, h => by
    rw [readN] at h
    split at h
    · cases h; simp
    · cases h
  | n + 1, s, l, h => by
    rw [readN] at h
    split at h
    · cases h; simp
    · cases hc : cutQ s with
      | none => rw [hc] at h; cases h
      | some pr =>
        obtain ⟨p, r⟩ := pr
        rw [hc] at h
        simp only at h
        cases hr : readN n r with
        | none => rw [hr] at h; cases h
        | some q =>
          rw [hr] at h
          cases h
          have := readN_len n r q hr
          have := (cut_len hc).2
          simp only [List.length_append]
          omega
theorem read_len {s l : List UInt8} (h : readQ s = some l) : l.length ≤ s.length := readN_len _ _ _ h
theorem digits_index : ∀ n : Fin 256, Lib.indexByte [48, 49, 50, 51, 52, 53, 54, 55, 56, 57, 65, 66, 67, 68, 69, 70] (UInt8.ofNat n) = digI (undigB (UInt8.ofNat n)) := by decide +kernel
theorem digit_index (c : UInt8) : Lib.indexByte [48, 49, 50, 51, 52, 53, 54, 55, 56, 57, 65, 66, 67, 68, 69, 70] c = digI (undigB c) := by
  have := digits_index ⟨c.toNat, c.toNat_lt⟩
  simpa using this
end Go.Proofs.YtjikghndoklajaaGreatDoor
namespace Go.Proofs.YtjikghndoklajaaGreatDoor
open Go.RowKit

theorem cut_waysF (s : ByteArray) : (linesQ s.data.toList = [s.data.toList] ∧ Lib.cut s.data.toList [13, 10] = (s.data.toList, [], false)) ∨
    ∃ X Y : ByteArray, Lib.cut s.data.toList [13, 10] = (X.data.toList, Y.data.toList, true) ∧ linesQ s.data.toList = X.data.toList :: linesQ Y.data.toList ∧ X.size + Y.size + 2 = s.size := by
  have hl : s.data.toList.length = s.size := rfl
  rcases lines_search s.data.toList with ⟨h1, h2⟩ | ⟨i, h1, h2, h3⟩
  · refine .inl ⟨h2, ?_⟩
    unfold Lib.cut
    rw [h1, if_neg (by decide)]
  · refine .inr ⟨⟨(s.data.toList.take i).toArray⟩, ⟨(s.data.toList.drop (i + 2)).toArray⟩, ?_, ?_, ?_⟩
    · unfold Lib.cut
      rw [h1, if_pos (by omega)]
      rfl
    · simpa using h3
    · show (s.data.toList.take i).length + (s.data.toList.drop (i + 2)).length + 2 = s.size
      rw [List.length_take, List.length_drop, hl]
      omega
theorem cut_any (s X Y : ByteArray) (b : Bool) (m : Int) (w : World) (hs : s.size ≤ 100000000) (hm : w.cell? ⟨0, 0, none⟩ = some (.int .i64 m)) (h : Lib.cut s.data.toList [13, 10] = (X.data.toList, Y.data.toList, b)) :
    Calls Tryz.prog 61 #[.string s, .string ⟨#[13, 10]⟩] w fun e w' => e = .returned (.tuple #[.string X, .string Y, .bool b]) ∧ Below w.heap.size w w' := by
  refine (Tryz.strings_Cut s ⟨#[13, 10]⟩ m w (by omega) hm).mono ?_
  rintro e w' ⟨he, n, rfl⟩
  rw [show (⟨#[13, 10]⟩ : ByteArray).data.toList = [13, 10] from rfl, h] at he
  exact ⟨he, below_drewN (Below.refl _ _) n⟩
set_option maxRecDepth 100000 in
theorem clone_any (s : ByteArray) (w : World) (hs : s.size ≤ 100000000) : Calls Tryz.prog 20 #[.string s] w fun e w' => e = .returned (.string s) ∧ Below w.heap.size w w' := by
  have hc := Tryz.stringslite_Clone s w (by omega)
  go_enter Tryz.func20, Tryz.ntmps20
  go_wp2_with (go_at_call 34; refine hc.mono ?_; rintro e w' ⟨rfl, hw⟩)
  go_ret
  exact ⟨rfl, hw⟩
theorem bound_abide {m : Int} {w w' : World} (hm : w.cell? ⟨0, 0, none⟩ = some (.int .i64 m)) (hb : Below w.heap.size w w') : w'.cell? ⟨0, 0, none⟩ = some (.int .i64 m) := by
  have hlt : 0 < w.heap.size := by
    rcases Nat.lt_or_ge 0 w.heap.size with h | h
    · exact h
    · rw [World.cell?, Array.getElem?_eq_none h] at hm
      simp at hm
  exact (hb.cell (p := ⟨0, 0, none⟩) hlt).trans hm

def goodF (ls : List (List UInt8)) (r : List UInt8) : List (List UInt8) := if r = [] then ls else []
def codeF (r : List UInt8) : Int := if r = [] then 0 else 2
theorem infoStr6 : (Tryz.prog.info? 9).map (fun i => (i.zero, i.size, i.bytes)) = some (some (.string ⟨#[]⟩), 1, 16) := by kernel_rfl
def textsF (ls : List (List UInt8)) : List ByteArray := ls.map textQ
theorem texts_snoc (ls : List (List UInt8)) (l : List UInt8) : textsF (ls ++ [l]) = textsF ls ++ [textQ l] := by simp [textsF]
theorem texts_len (ls : List (List UInt8)) : (textsF ls).length = ls.length := by simp [textsF]
theorem texts_get (ls : List (List UInt8)) (i : Nat) (h : i < ls.length) : (textsF ls).getD i ByteArray.empty = textQ ls[i] := by simp [textsF, List.getD, h]
theorem text_data (s : ByteArray) : textQ s.data.toList = s := rfl

set_option maxRecDepth 100000 in
set_option maxHeartbeats 2000000 in
theorem flines_any (s : ByteArray) (m : Int) (ls : List (List UInt8)) (r : List UInt8) (w : World) (hs : s.size ≤ 1000000) (hm : w.cell? ⟨0, 0, none⟩ = some (.int .i64 m)) (hl : linesQ s.data.toList = ls ++ [r]) :
    Calls Tryz.prog 36 #[.string s] w fun e w' => ∃ v, e = .returned (.tuple #[v, .int .i64 (codeF r)]) ∧ w'.ownsRow w.heap.size 9 1 v (goodF ls r).length ((textsF (goodF ls r)).map .string) ∧ Below w.heap.size w w' := by
  obtain ⟨i0, hi, hz0, hz1, hz2⟩ := info_parts infoStr6
  have HL := Lib.hid hl
  clear hl
  go_enter Tryz.func36, Tryz.ntmps36
  go_wp2
  go_loopw [0, 4, 5, 6, 7] (fun sv o _ _ _ wr => ∃ (x : ByteArray) (li : List (List UInt8)), sv = .string x ∧ x.size ≤ s.size ∧ li.length + x.size ≤ s.size ∧ linesQ s.data.toList = li ++ linesQ x.data.toList ∧ wr.ownsRow w.heap.size 9 1 o li.length ((textsF li).map .string) ∧ Below w.heap.size w wr) (fun sv _ _ _ _ _ => match sv with | .string x => x.size | _ => 0)
  case atStart => exact ⟨s, [], rfl, Nat.le_refl _, by simp, rfl, World.ownsRow_nil _ _ _ _, Below.refl _ _⟩
  case round =>
    obtain ⟨x, li, rfl, hx, hll, hst, hown, hbr⟩ := hrel
    have hmr := bound_abide hm hbr
    have hbz := hbr.size
    by_cases he : x = ⟨#[]⟩
    · subst he
      have hst2 : ls ++ [r] = li ++ [[]] := by rw [← HL.out]; exact hst
      obtain ⟨rfl, rfl⟩ := parts_inj hst2
      clear hst hst2
      go_wp2
      go_ret2
      refine ⟨_, rfl, ?_, hbr⟩
      rw [show goodF ls [] = ls from rfl]
      exact hown
    · have hne : x.toList.isEmpty = false := by
        rw [Lib.toList_data, List.isEmpty_eq_false_iff]
        exact fun e => he (ByteArray.ext (Array.ext' e))
      rcases cut_waysF x with ⟨h1, h2⟩ | ⟨X, Y, h1, h2, h3⟩
      · have hcut := cut_any x x ⟨#[]⟩ false m wr (by omega) hmr h2
        rw [h1] at hst
        have hst2 : ls ++ [r] = li ++ [x.data.toList] := by rw [← HL.out]; exact hst
        obtain ⟨rfl, rfl⟩ := parts_inj hst2
        have hr : x.data.toList ≠ [] := fun e => he (ByteArray.ext (Array.ext' e))
        have Hr := Lib.hid hr
        clear hst hst2 h1 h2 hr he hown
        go_wp2_with fail
        refine hcut.mono ?_
        rintro e w2 ⟨rfl, hw2⟩
        go_wp2
        go_ret2
        refine ⟨.slice none 0 0, by unfold codeF; rw [if_neg Hr.out]; rfl, ?_, hbr.trans (hw2.mono hbz)⟩
        unfold goodF
        rw [if_neg Hr.out]
        exact World.ownsRow_nil _ _ _ _
      · have hcut := cut_any x X Y true m wr (by omega) hmr h1
        have hst2 : linesQ s.data.toList = (li ++ [X.data.toList]) ++ linesQ Y.data.toList := by rw [hst, h2, List.append_assoc]; rfl
        have hcl := fun W => clone_any X W (by omega)
        have Hst := Lib.hid hst2
        clear hst hst2 h1 h2 he
        go_wp2_with fail
        refine hcut.mono ?_
        rintro e w2 ⟨rfl, hw2⟩
        have hb2 := hbr.trans (hw2.mono hbz)
        have hown2 := ownsRow_below4 hown hw2
        have hy2 := hb2.size
        clear hcut hown hw2
        go_wp2_with fail
        refine (hcl _).mono ?_
        rintro e w3 ⟨rfl, hw3⟩
        have hb3 := hb2.trans (hw3.mono hy2)
        have hown3 := (ownsRow_below4 hown2 hw3).alloc (.cells #[.string X] 9)
        have hy3 := hb3.size
        clear hcl hown2 hw3 hb2
        go_wp2_with (at_builtin; refine wpList_append_own _ rfl _ _ 49 rfl w.heap.size 9 i0 (.string ⟨#[]⟩) 1 16 Tryz.underlying49 hi hz0 hz1 hz2 rfl (by decide) _ li.length _ rfl hown3 ⟨w3.heap.size, 0, none⟩ 1 1 [.string X] rfl rfl ?n1 ?n2 ?n3 ?n4 ?n5 ?_)
        case n1 =>
          intro j u hj
          rw [Addr.add_lit]
          have hj0 : j = 0 := by
            rcases Nat.eq_zero_or_pos j with h | h
            · exact h
            · rw [List.getElem?_eq_none (by simp; omega)] at hj
              cases hj
          subst hj0
          simp at hj
          subst hj
          go_simp
        case n2 =>
          intro u hu
          simp at hu
          subst hu
          rfl
        case n3 => unfold maxLen; omega
        case n4 => omega
        case n5 => simp; omega
        intro v' w4 hown4 hgrow4 _
        have hb4 : Below w.heap.size w w4 := (hb3.alloc hy3 _).grown hgrow4 (by simp; omega) fun k hk => (hown3.lt k hk).1
        have hown5 : w4.ownsRow w.heap.size 9 1 v' (li ++ [X.data.toList]).length ((textsF (li ++ [X.data.toList])).map .string) := by
          rw [List.length_append, texts_snoc, List.map_append, text_data]
          exact hown4
        clear hown4 hgrow4 hown3 hb3
        go_wp2
        go_roundw
        case rel => exact ⟨Y, li ++ [X.data.toList], rfl, by omega, by simp; omega, Hst.out, hown5, hb4⟩
        case measure => show Y.size < x.size; omega
end Go.Proofs.YtjikghndoklajaaGreatDoor
