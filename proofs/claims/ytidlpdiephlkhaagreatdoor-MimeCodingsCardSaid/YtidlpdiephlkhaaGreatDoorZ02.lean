/-
  Texts of this proof, put together: Glue, StrL, F6F, R4A, R4L.
-/
import Derived.Test.YtidlpdiephlkhaaGreatDoorZ01
import Derived.Lib.Strings
import Derived.Lib.Walk
import Derived.Test.YtidlpdiephlkhaaGreatDoorRows
import Derived.WalkKit
import Derived.WalkSpells
import Derived.WalkLawsBesides
import Derived.Lib.Hide
import Derived.Laws.AppendOwn
import Derived.Laws.BytesArg
import Derived.LoopIn
import Derived.Deep.LoopGhost
import Derived.Maps.OwnSet
namespace Go.Proofs.YtidlpdiephlkhaaGreatDoor

/-- What was read of a line by now stands ahead of what is left. -/
def glueQ (cur : List UInt8) : List (List UInt8) → List (List UInt8)
  | [] => [cur]
  | l :: ls => (cur ++ l) :: ls
theorem glue_nil {ls : List (List UInt8)} (h : ls ≠ []) : glueQ [] ls = ls := by
  cases ls with
  | nil => exact absurd rfl h
  | cons l ls => rfl
theorem glue_end (cur r : List UInt8) : glueQ cur (linesQ (13 :: 10 :: r)) = cur :: linesQ r := by
  rw [lines_end]
  show (cur ++ []) :: linesQ r = _
  rw [List.append_nil]
theorem glue_byte {c d : UInt8} (h : ¬ (c = 13 ∧ d = 10)) (cur r : List UInt8) : glueQ cur (linesQ (c :: d :: r)) = glueQ (cur ++ [c]) (linesQ (d :: r)) := by
  obtain ⟨l, ls, h1, h2⟩ := lines_cons c d r h
  rw [h1, h2]
  show (cur ++ c :: l) :: ls = (cur ++ [c] ++ l) :: ls
  simp
theorem lines_short {s : List UInt8} (h : s.length ≤ 1) : linesQ s = [s] := by
  match s, h with
  | [], _ => rfl
  | [c], _ => rfl
/-- A line as a text. -/
def textQ (l : List UInt8) : ByteArray := ⟨l.toArray⟩
theorem cut_text (s : ByteArray) (a b : Nat) : s.extract a b = textQ ((s.data.toList.drop a).take (b - a)) := ByteArray.ext (Array.ext' (by rw [Lib.extract_data]; rfl))
end Go.Proofs.YtidlpdiephlkhaaGreatDoor
namespace Go.Proofs.YtidlpdiephlkhaaGreatDoor
open Go.RowKit

/-- The slice (A, n, c) reads, in w, as the strings ss; its cells lie below block B. -/
def Strs (w : World) (B : Nat) (A : Option Addr) (n c : Nat) (ss : List ByteArray) : Prop :=
  ss.length = n ∧ ((A = none ∧ n = 0 ∧ c = 0) ∨ ∃ ad, A = some ad ∧ (n = 0 ∨ ∃ b off, ad = ⟨b, off, none⟩ ∧ b < B ∧ ∀ j, j < n → w.cell? ⟨b, off + j, none⟩ = some (.string (ss.getD j ByteArray.empty))))

section
variable {w w' : World} {B B' n c : Nat} {A : Option Addr} {ss : List ByteArray}
theorem Strs.len (h : Strs w B A n c ss) : ss.length = n := h.1
theorem Strs.at_ (h : Strs w B A n c ss) {k : Nat} (hk : k < n) : ∃ b off, A = some ⟨b, off, none⟩ ∧ b < B ∧ ∀ j, j < n → w.cell? ⟨b, off + j, none⟩ = some (.string (ss.getD j ByteArray.empty)) := by
  rcases h.2 with ⟨_, h0, _⟩ | ⟨ad, rfl, h0 | ⟨b, off, rfl, hb, hc⟩⟩
  · omega
  · omega
  · exact ⟨b, off, rfl, hb, hc⟩
theorem Strs.keep (h : Strs w B A n c ss) (hk : ∀ p : Addr, p.block < B → w'.cell? p = w.cell? p) : Strs w' B A n c ss := by
  refine ⟨h.1, ?_⟩
  rcases h.2 with h0 | ⟨ad, rfl, h0 | ⟨b, off, rfl, hb, hc⟩⟩
  · exact .inl h0
  · exact .inr ⟨ad, rfl, .inl h0⟩
  · exact .inr ⟨_, rfl, .inr ⟨b, off, rfl, hb, fun j hj => (hk _ hb).trans (hc j hj)⟩⟩
theorem Strs.more (h : Strs w B A n c ss) (hB : B ≤ B') : Strs w B' A n c ss := by
  refine ⟨h.1, ?_⟩
  rcases h.2 with h0 | ⟨ad, rfl, h0 | ⟨b, off, rfl, hb, hc⟩⟩
  · exact .inl h0
  · exact .inr ⟨ad, rfl, .inl h0⟩
  · exact .inr ⟨_, rfl, .inr ⟨b, off, rfl, by omega, hc⟩⟩
theorem Strs.below (h : Strs w B A n c ss) (hb : Below B w w') : Strs w' B A n c ss := h.keep fun _ hp => hb.cell hp
theorem Strs.alloc (h : Strs w B A n c ss) (hB : B ≤ w.heap.size) (o : Obj) : Strs (w.alloc o) B A n c ss := h.below ((Below.refl _ _).alloc hB o)
/-- What the call owns reads as the strings. -/
theorem Strs.of_own {base : Nat} {v : Value} {e : TypeId} (h : w.ownsRow base e 1 v n (ss.map .string)) : ∃ A c, v = .slice A n c ∧ Strs w w.heap.size A n c ss := by
  have hl : ss.length = n := by simpa using h.1
  rcases h.2 with ⟨rfl, rfl⟩ | ⟨g, cap, cur, rfl, hb, hg, hnc, hcm, hcs, ht⟩
  · exact ⟨none, 0, rfl, hl, .inl ⟨rfl, rfl, rfl⟩⟩
  · refine ⟨_, _, rfl, hl, .inr ⟨_, rfl, .inr ⟨g, 0, rfl, ?_, fun j hj => ?_⟩⟩⟩
    · exact (h.lt g rfl).2
    · have hc := h.cells (g := g) rfl j (.string (ss.getD j ByteArray.empty)) (by rw [List.getElem?_map, List.getElem?_eq_getElem (by omega)]; simp [List.getD, List.getElem?_eq_getElem (show j < ss.length by omega)])
      rw [Addr.add_lit] at hc
      simpa using hc
end

end Go.Proofs.YtidlpdiephlkhaaGreatDoor
namespace Go.Proofs.YtidlpdiephlkhaaGreatDoor

/-- Behind lines that ended, what waits: a text's lines, taken apart. -/
theorem lines_parts (s : List UInt8) : ∃ ls r, linesQ s = ls ++ [r] := ⟨_, _, (List.dropLast_concat_getLast (lines_ne s)).symm⟩
theorem parts_inj {a b : List (List UInt8)} {r q : List UInt8} (h : a ++ [r] = b ++ [q]) : a = b ∧ r = q := by
  have := List.append_inj' h rfl
  exact ⟨this.1, by simpa using this.2⟩
/-- MORE BYTES: they go on with what waits. -/
theorem lines_app (t : List UInt8) : ∀ (s : List UInt8) (ls : List (List UInt8)) (r : List UInt8), linesQ s = ls ++ [r] → linesQ (s ++ t) = ls ++ linesQ (r ++ t)
  | [], ls, r, h => by
    have := parts_inj (a := []) (r := []) h
    rw [← this.1, ← this.2]
    rfl
  | [c], ls, r, h => by
    have := parts_inj (a := []) (r := [c]) h
    rw [← this.1, ← this.2]
    rfl
  | c :: d :: s, ls, r, h => by
    by_cases he : c = 13 ∧ d = 10
    · rw [he.1, he.2, lines_end] at h
      obtain ⟨l0, r0, h0⟩ := lines_parts s
      rw [h0] at h
      have := parts_inj (a := [] :: l0) (r := r0) h
      rw [he.1, he.2, List.cons_append, List.cons_append, lines_end, lines_app t s l0 r0 h0, ← this.1, ← this.2]
      rfl
    · obtain ⟨l, l1, h1, h2⟩ := lines_cons c d s he
      obtain ⟨l', l2, h3, h4⟩ := lines_cons c d (s ++ t) he
      have e : (c :: d :: s) ++ t = c :: d :: (s ++ t) := rfl
      rcases List.eq_nil_or_concat l1 with rfl | ⟨l0, r0, rfl⟩
      · have hj := join_lines (d :: s)
        rw [h1] at hj
        have hj2 : l = d :: s := hj
        rw [h2, hj2] at h
        have := parts_inj (a := []) (r := c :: d :: s) h
        rw [← this.1, ← this.2]
        rfl
      · rw [List.concat_eq_append] at h1 h2
        rw [h2] at h
        have := parts_inj (a := (c :: l) :: l0) (r := r0) h
        have ih := lines_app t (d :: s) (l :: l0) r0 h1
        rw [List.cons_append, h3] at ih
        simp only [List.cons_append, List.cons.injEq] at ih
        rw [e, h4, ih.1, ih.2, ← this.1, ← this.2]
        rfl
/-- Lines, each with its end. -/
def wholeF (ls : List (List UInt8)) : List UInt8 := ls.flatMap (· ++ [13, 10])
theorem whole_cons (l : List UInt8) (ls : List (List UInt8)) : wholeF (l :: ls) = l ++ 13 :: 10 :: wholeF ls := by simp [wholeF]
theorem join_whole (r : List UInt8) : ∀ ls : List (List UInt8), joinQ (ls ++ [r]) = wholeF ls ++ r
  | [] => rfl
  | l :: ls => by rw [List.cons_append, join_cons _ (by simp), join_whole r ls, whole_cons]; simp
end Go.Proofs.YtidlpdiephlkhaaGreatDoor
namespace Go.Proofs.YtidlpdiephlkhaaGreatDoor
open Go.RowKit

/-- A row of bytes just made, as a text. -/
theorem conv_one (c : UInt8) (W : World) : (convert 67 9 (.slice (some ⟨W.heap.size, 0, none⟩) 1 1)).run Tryz.prog (W.alloc (.cells #[.int .u8 (c.toNat : Int)] 5)) = .ok (.string ⟨#[c]⟩) (W.alloc (.cells #[.int .u8 (c.toNat : Int)] 5)) := by
  have := run_convert_bytes_arg (P := Tryz.prog) (W.alloc (.cells #[.int .u8 (c.toNat : Int)] 5)) 67 5 Tryz.underlying67 Tryz.underlying5 W.heap.size 0 1 1 [(c.toNat : Int)] rfl (fun i hi => by
    obtain rfl : i = 0 := by omega
    go_simp) 9 Tryz.underlying9
  rw [this]
  unfold strOfNums
  simp
theorem sign_plain {c : UInt8} {last : Bool} (h : plainQ c last = true) : signB c last = [c] := by unfold signB; rw [if_pos h]
theorem sign_coded {c : UInt8} {last : Bool} (h : plainQ c last = false) : signB c last = [61, digB (c.toNat / 16), digB (c.toNat % 16)] := by unfold signB; rw [if_neg (by rw [h]; simp)]
theorem plain_mid {c : UInt8} (last : Bool) (h1 : 33 ≤ c.toNat) (h2 : c.toNat ≤ 126) (h3 : c.toNat ≠ 61) : plainQ c last = true := by
  unfold plainQ
  rw [decide_eq_true h1, decide_eq_true h2, decide_eq_true (show c ≠ 61 from fun e => h3 (by rw [e]; rfl))]
  rfl
theorem plain_blank {c : UInt8} (h : c.toNat = 32 ∨ c.toNat = 9) (last : Bool) : plainQ c last = !last := by
  rcases h with h | h
  · obtain rfl : c = 32 := UInt8.toNat_inj.1 h
    cases last <;> decide
  · obtain rfl : c = 9 := UInt8.toNat_inj.1 h
    cases last <;> decide
theorem plain_no {c : UInt8} (last : Bool) (h : c.toNat = 61 ∨ 126 < c.toNat ∨ (c.toNat < 33 ∧ c.toNat ≠ 32 ∧ c.toNat ≠ 9)) : plainQ c last = false := by
  have h32 : c.toNat ≠ 32 → c ≠ 32 := fun h e => h (by rw [e]; rfl)
  have h9 : c.toNat ≠ 9 → c ≠ 9 := fun h e => h (by rw [e]; rfl)
  unfold plainQ
  rcases h with h | h | ⟨h1, h2, h3⟩
  · rw [decide_eq_false (show ¬ c ≠ 61 from fun e => e (UInt8.toNat_inj.1 h)), decide_eq_false (h32 (by omega)), decide_eq_false (h9 (by omega))]
    simp
  · rw [decide_eq_false (show ¬ c.toNat ≤ 126 by omega), decide_eq_false (h32 (by omega)), decide_eq_false (h9 (by omega))]
    simp
  · rw [decide_eq_false (show ¬ 33 ≤ c.toNat by omega), decide_eq_false (h32 h2), decide_eq_false (h9 h3)]
    simp

end Go.Proofs.YtidlpdiephlkhaaGreatDoor
namespace Go.Proofs.YtidlpdiephlkhaaGreatDoor
open Go.RowKit

end Go.Proofs.YtidlpdiephlkhaaGreatDoor
