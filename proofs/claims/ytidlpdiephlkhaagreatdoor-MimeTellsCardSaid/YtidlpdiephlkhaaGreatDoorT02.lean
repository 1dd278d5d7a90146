/-
  Texts of this proof, put together: Glue, StrL, F6F, R4A, R4L.
-/
import Derived.Test.YtidlpdiephlkhaaGreatDoorT01
import Derived.Lib.Strings
import Derived.Lib.Walk
import Derived.Test.YtidlpdiephlkhaaGreatDoorRows
import Derived.WalkKit
import Derived.WalkSpells
import Derived.WalkLawsBesides
import Derived.Lib.Hide
import Derived.Laws.AppendOwn
import Derived.Laws.BytesArg
import Derived.LoopIn
import Derived.Deep.LoopGhost
import Derived.Maps.OwnSet
namespace Go.Proofs.YtidlpdiephlkhaaGreatDoor

/-- What was read of a line by now stands ahead of what is left. -/
def glueQ (cur : List UInt8) : List (List UInt8) → List (List UInt8)
  | [] => [cur]
  | l :: ls => (cur ++ l) :: ls
theorem glue_nil {ls : List (List UInt8)} (h : ls ≠ []) : glueQ [] ls = ls := by
  cases ls with
  | nil => exact absurd rfl h
  | cons l ls => rfl
theorem glue_end (cur r : List UInt8) : glueQ cur (linesQ (13 :: 10 :: r)) = cur :: linesQ r := by
  rw [lines_end]
  show (cur ++ []) :: linesQ r = _
  rw [List.append_nil]
theorem glue_byte {c d : UInt8} (h : ¬ (c = 13 ∧ d = 10)) (cur r : List UInt8) : glueQ cur (linesQ (c :: d :: r)) = glueQ (cur ++ [c]) (linesQ (d :: r)) := by
  obtain ⟨l, ls, h1, h2⟩ := lines_cons c d r h
  rw [h1, h2]
  show (cur ++ c :: l) :: ls = (cur ++ [c] ++ l) :: ls
  simp
theorem lines_short {s : List UInt8} (h : s.length ≤ 1) : linesQ s = [s] := by
  match s, h with
  | [], _ => rfl
  | [c], _ => rfl
/-- A line as a text. -/
def textQ (l : List UInt8) : ByteArray := ⟨l.toArray⟩
theorem cut_text (s : ByteArray) (a b : Nat) : s.extract a b = textQ ((s.data.toList.drop a).take (b - a)) := ByteArray.ext (Array.ext' (by rw [Lib.extract_data]; rfl))
end Go.Proofs.YtidlpdiephlkhaaGreatDoor
namespace Go.Proofs.YtidlpdiephlkhaaGreatDoor
open Go.RowKit

/-- The slice (A, n, c) reads, in w, as the strings ss; its cells lie below block B. -/
def Strs (w : World) (B : Nat) (A : Option Addr) (n c : Nat) (ss : List ByteArray) : Prop :=
  ss.length = n ∧ ((A = none ∧ n = 0 ∧ c = 0) ∨ ∃ ad, A = some ad ∧ (n = 0 ∨ ∃ b off, ad = ⟨b, off, none⟩ ∧ b < B ∧ ∀ j, j < n → w.cell? ⟨b, off + j, none⟩ = some (.string (ss.getD j ByteArray.empty))))

section
variable {w w' : World} {B B' n c : Nat} {A : Option Addr} {ss : List ByteArray}
theorem Strs.len (h : Strs w B A n c ss) : ss.length = n := h.1
theorem Strs.at_ (h : Strs w B A n c ss) {k : Nat} (hk : k < n) : ∃ b off, A = some ⟨b, off, none⟩ ∧ b < B ∧ ∀ j, j < n → w.cell? ⟨b, off + j, none⟩ = some (.string (ss.getD j ByteArray.empty)) := by
  rcases h.2 with ⟨_, h0, _⟩ | ⟨ad, rfl, h0 | ⟨b, off, rfl, hb, hc⟩⟩
  · omega
  · omega
  · exact ⟨b, off, rfl, hb, hc⟩
theorem Strs.keep (h : Strs w B A n c ss) (hk : ∀ p : Addr, p.block < B → w'.cell? p = w.cell? p) : Strs w' B A n c ss := by
  refine ⟨h.1, ?_⟩
  rcases h.2 with h0 | ⟨ad, rfl, h0 | ⟨b, off, rfl, hb, hc⟩⟩
  · exact .inl h0
  · exact .inr ⟨ad, rfl, .inl h0⟩
  · exact .inr ⟨_, rfl, .inr ⟨b, off, rfl, hb, fun j hj => (hk _ hb).trans (hc j hj)⟩⟩
theorem Strs.more (h : Strs w B A n c ss) (hB : B ≤ B') : Strs w B' A n c ss := by
  refine ⟨h.1, ?_⟩
  rcases h.2 with h0 | ⟨ad, rfl, h0 | ⟨b, off, rfl, hb, hc⟩⟩
  · exact .inl h0
  · exact .inr ⟨ad, rfl, .inl h0⟩
  · exact .inr ⟨_, rfl, .inr ⟨b, off, rfl, by omega, hc⟩⟩
theorem Strs.below (h : Strs w B A n c ss) (hb : Below B w w') : Strs w' B A n c ss := h.keep fun _ hp => hb.cell hp
theorem Strs.alloc (h : Strs w B A n c ss) (hB : B ≤ w.heap.size) (o : Obj) : Strs (w.alloc o) B A n c ss := h.below ((Below.refl _ _).alloc hB o)
/-- What the call owns reads as the strings. -/
theorem Strs.of_own {base : Nat} {v : Value} {e : TypeId} (h : w.ownsRow base e 1 v n (ss.map .string)) : ∃ A c, v = .slice A n c ∧ Strs w w.heap.size A n c ss := by
  have hl : ss.length = n := by simpa using h.1
  rcases h.2 with ⟨rfl, rfl⟩ | ⟨g, cap, cur, rfl, hb, hg, hnc, hcm, hcs, ht⟩
  · exact ⟨none, 0, rfl, hl, .inl ⟨rfl, rfl, rfl⟩⟩
  · refine ⟨_, _, rfl, hl, .inr ⟨_, rfl, .inr ⟨g, 0, rfl, ?_, fun j hj => ?_⟩⟩⟩
    · exact (h.lt g rfl).2
    · have hc := h.cells (g := g) rfl j (.string (ss.getD j ByteArray.empty)) (by rw [List.getElem?_map, List.getElem?_eq_getElem (by omega)]; simp [List.getD, List.getElem?_eq_getElem (show j < ss.length by omega)])
      rw [Addr.add_lit] at hc
      simpa using hc
end

end Go.Proofs.YtidlpdiephlkhaaGreatDoor
namespace Go.Proofs.YtidlpdiephlkhaaGreatDoor

/-- Behind lines that ended, what waits: a text's lines, taken apart. -/
theorem lines_parts (s : List UInt8) : ∃ ls r, linesQ s = ls ++ [r] := ⟨_, _, (List.dropLast_concat_getLast (lines_ne s)).symm⟩
theorem parts_inj {a b : List (List UInt8)} {r q : List UInt8} (h : a ++ [r] = b ++ [q]) : a = b ∧ r = q := by
  have := List.append_inj' h rfl
  exact ⟨this.1, by simpa using this.2⟩
/-- MORE BYTES: they go on with what waits. -/
theorem lines_app (t : List UInt8) : ∀ (s : List UInt8) (ls : List (List UInt8)) (r : List UInt8), linesQ s = ls ++ [r] → linesQ (s ++ t) = ls ++ linesQ (r ++ t)
  | [], ls, r, h => by
    have := parts_inj (a := []) (r := []) h
    rw [← this.1, ← this.2]
    rfl
  | [c], ls, r, h => by
    have := parts_inj (a := []) (r := [c]) h
    rw [← this.1, ← this.2]
    rfl
  | c :: d :: s, ls, r, h => by
    by_cases he : c = 13 ∧ d = 10
    · rw [he.1, he.2, lines_end] at h
      obtain ⟨l0, r0, h0⟩ := lines_parts s
      rw [h0] at h
      have := parts_inj (a := [] :: l0) (r := r0) h
      rw [he.1, he.2, List.cons_append, List.cons_append, lines_end, lines_app t s l0 r0 h0, ← this.1, ← this.2]
      rfl
    · obtain ⟨l, l1, h1, h2⟩ := lines_cons c d s he
      obtain ⟨l', l2, h3, h4⟩ := lines_cons c d (s ++ t) he
      have e : (c :: d :: s) ++ t = c :: d :: (s ++ t) := rfl
      rcases List.eq_nil_or_concat l1 with rfl | ⟨l0, r0, rfl⟩
      · have hj := join_lines (d :: s)
        rw [h1] at hj
        have hj2 : l = d :: s := hj
        rw [h2, hj2] at h
        have := parts_inj (a := []) (r := c :: d :: s) h
        rw [← this.1, ← this.2]
        rfl
      · rw [List.concat_eq_append] at h1 h2
        rw [h2] at h
        have := parts_inj (a := (c :: l) :: l0) (r := r0) h
        have ih := lines_app t (d :: s) (l :: l0) r0 h1
        rw [List.cons_append, h3] at ih
        simp only [List.cons_append, List.cons.injEq] at ih
        rw [e, h4, ih.1, ih.2, ← this.1, ← this.2]
        rfl
/-- Lines, each with its end. -/
def wholeF (ls : List (List UInt8)) : List UInt8 := ls.flatMap (· ++ [13, 10])
theorem whole_cons (l : List UInt8) (ls : List (List UInt8)) : wholeF (l :: ls) = l ++ 13 :: 10 :: wholeF ls := by simp [wholeF]
theorem join_whole (r : List UInt8) : ∀ ls : List (List UInt8), joinQ (ls ++ [r]) = wholeF ls ++ r
  | [] => rfl
  | l :: ls => by rw [List.cons_append, join_cons _ (by simp), join_whole r ls, whole_cons]; simp
end Go.Proofs.YtidlpdiephlkhaaGreatDoor
namespace Go.Proofs.YtidlpdiephlkhaaGreatDoor
open Go.RowKit

theorem r4digit_any (v : Nat) (hv : v < 16) (w : World) : Calls Tryz.prog 128 #[.int .u8 (v : Int)] w fun e w' => e = .returned (.int .u8 ((digB v).toNat : Int)) ∧ w' = w := by
  by_cases h : v < 10
  · have e : ((digB v).toNat : Int) = 48 + (v : Int) := by
      unfold digB
      rw [if_pos h, UInt8.toNat_ofNat_of_lt' (by show _ < 256; omega)]
      push_cast
      rfl
    rw [e]
    clear e
    go_enter Tryz.func128, Tryz.ntmps128
    go_wp2
    go_ret
    exact ⟨rfl, rfl⟩
  · have e : ((digB v).toNat : Int) = 55 + (v : Int) := by
      unfold digB
      rw [if_neg h, UInt8.toNat_ofNat_of_lt' (by show _ < 256; omega)]
      push_cast
      rfl
    rw [e]
    clear e
    go_enter Tryz.func128, Tryz.ntmps128
    go_wp2
    go_ret
    exact ⟨rfl, rfl⟩
/-- A row of bytes just made, as a text. -/
theorem conv_one (c : UInt8) (W : World) : (convert 67 9 (.slice (some ⟨W.heap.size, 0, none⟩) 1 1)).run Tryz.prog (W.alloc (.cells #[.int .u8 (c.toNat : Int)] 5)) = .ok (.string ⟨#[c]⟩) (W.alloc (.cells #[.int .u8 (c.toNat : Int)] 5)) := by
  have := run_convert_bytes_arg (P := Tryz.prog) (W.alloc (.cells #[.int .u8 (c.toNat : Int)] 5)) 67 5 Tryz.underlying67 Tryz.underlying5 W.heap.size 0 1 1 [(c.toNat : Int)] rfl (fun i hi => by
    obtain rfl : i = 0 := by omega
    go_simp) 9 Tryz.underlying9
  rw [this]
  unfold strOfNums
  simp
theorem conv_three (a b c : UInt8) (W : World) : (convert 67 9 (.slice (some ⟨W.heap.size, 0, none⟩) 3 3)).run Tryz.prog (W.alloc (.cells #[.int .u8 (a.toNat : Int), .int .u8 (b.toNat : Int), .int .u8 (c.toNat : Int)] 5)) = .ok (.string ⟨#[a, b, c]⟩) (W.alloc (.cells #[.int .u8 (a.toNat : Int), .int .u8 (b.toNat : Int), .int .u8 (c.toNat : Int)] 5)) := by
  have := run_convert_bytes_arg (P := Tryz.prog) (W.alloc (.cells #[.int .u8 (a.toNat : Int), .int .u8 (b.toNat : Int), .int .u8 (c.toNat : Int)] 5)) 67 5 Tryz.underlying67 Tryz.underlying5 W.heap.size 0 3 3 [(a.toNat : Int), (b.toNat : Int), (c.toNat : Int)] rfl (fun i hi => by
    rcases (by omega : i = 0 ∨ i = 1 ∨ i = 2) with rfl | rfl | rfl <;> go_simp) 9 Tryz.underlying9
  rw [this]
  unfold strOfNums
  simp

theorem sign_plain {c : UInt8} {last : Bool} (h : plainQ c last = true) : signB c last = [c] := by unfold signB; rw [if_pos h]
theorem sign_coded {c : UInt8} {last : Bool} (h : plainQ c last = false) : signB c last = [61, digB (c.toNat / 16), digB (c.toNat % 16)] := by unfold signB; rw [if_neg (by rw [h]; simp)]
theorem plain_mid {c : UInt8} (last : Bool) (h1 : 33 ≤ c.toNat) (h2 : c.toNat ≤ 126) (h3 : c.toNat ≠ 61) : plainQ c last = true := by
  unfold plainQ
  rw [decide_eq_true h1, decide_eq_true h2, decide_eq_true (show c ≠ 61 from fun e => h3 (by rw [e]; rfl))]
  rfl
theorem plain_blank {c : UInt8} (h : c.toNat = 32 ∨ c.toNat = 9) (last : Bool) : plainQ c last = !last := by
  rcases h with h | h
  · obtain rfl : c = 32 := UInt8.toNat_inj.1 h
    cases last <;> decide
  · obtain rfl : c = 9 := UInt8.toNat_inj.1 h
    cases last <;> decide
theorem plain_no {c : UInt8} (last : Bool) (h : c.toNat = 61 ∨ 126 < c.toNat ∨ (c.toNat < 33 ∧ c.toNat ≠ 32 ∧ c.toNat ≠ 9)) : plainQ c last = false := by
  have h32 : c.toNat ≠ 32 → c ≠ 32 := fun h e => h (by rw [e]; rfl)
  have h9 : c.toNat ≠ 9 → c ≠ 9 := fun h e => h (by rw [e]; rfl)
  unfold plainQ
  rcases h with h | h | ⟨h1, h2, h3⟩
  · rw [decide_eq_false (show ¬ c ≠ 61 from fun e => e (UInt8.toNat_inj.1 h)), decide_eq_false (h32 (by omega)), decide_eq_false (h9 (by omega))]
    simp
  · rw [decide_eq_false (show ¬ c.toNat ≤ 126 by omega), decide_eq_false (h32 (by omega)), decide_eq_false (h9 (by omega))]
    simp
  · rw [decide_eq_false (show ¬ 33 ≤ c.toNat by omega), decide_eq_false (h32 h2), decide_eq_false (h9 h3)]
    simp

set_option maxRecDepth 100000 in
set_option maxHeartbeats 1600000 in
theorem r4sign_any (c : UInt8) (last : Bool) (w : World) : Calls Tryz.prog 130 #[.int .u8 (c.toNat : Int), .bool last] w fun e w' => e = .returned (.string ⟨(signB c last).toArray⟩) ∧ Below w.heap.size w w' := by
  have hcl : c.toNat < 256 := c.toNat_lt
  have hbw := Below.refl w.heap.size w
  have v1 := conv_one c w
  have v3 := conv_three 61 (digB (c.toNat / 16)) (digB (c.toNat % 16)) w
  have d1 : ∀ W, Calls Tryz.prog 128 #[.int .u8 ((c.toNat : Int) / 16)] W fun e w' => e = .returned (.int .u8 ((digB (c.toNat / 16)).toNat : Int)) ∧ w' = W := fun W => r4digit_any (c.toNat / 16) (by omega) W
  have d2 : ∀ W, Calls Tryz.prog 128 #[.int .u8 ((c.toNat : Int) % 16)] W fun e w' => e = .returned (.int .u8 ((digB (c.toNat % 16)).toNat : Int)) ∧ w' = W := fun W => r4digit_any (c.toNat % 16) (by omega) W
  rw [show ((61 : UInt8).toNat : Int) = 61 from rfl] at v3
  rcases (by omega : (33 ≤ c.toNat ∧ c.toNat < 61) ∨ (61 < c.toNat ∧ c.toNat ≤ 126) ∨ c.toNat = 61 ∨ c.toNat = 32 ∨ c.toNat = 9 ∨ c.toNat < 9 ∨ (10 ≤ c.toNat ∧ c.toNat ≤ 31) ∨ 126 < c.toNat) with h | h | h | h | h | h | h | h
  · have f0 : ((c.toNat : Int) != 61) = true := by rw [bne_iff_ne]; omega
    have g0 : 33 ≤ c.toNat := by omega
    have g1 : c.toNat ≤ 126 := by omega
    rw [show signB c last = [c] from sign_plain (by exact plain_mid last (by omega) (by omega) (by omega))]
    clear h
    go_enter Tryz.func130, Tryz.ntmps130
    go_wp2
    go_ret
    exact ⟨rfl, hbw.alloc (Nat.le_refl _) _⟩
  · have f0 : ((c.toNat : Int) != 61) = true := by rw [bne_iff_ne]; omega
    have g0 : 33 ≤ c.toNat := by omega
    have g1 : c.toNat ≤ 126 := by omega
    rw [show signB c last = [c] from sign_plain (by exact plain_mid last (by omega) (by omega) (by omega))]
    clear h
    go_enter Tryz.func130, Tryz.ntmps130
    go_wp2
    go_ret
    exact ⟨rfl, hbw.alloc (Nat.le_refl _) _⟩
  · have f0 : ((c.toNat : Int) != 61) = false := by rw [bne_eq_false_iff_eq]; omega
    have f1 : ((c.toNat : Int) == 32) = false := by rw [beq_eq_false_iff_ne]; omega
    have f2 : ((c.toNat : Int) == 9) = false := by rw [beq_eq_false_iff_ne]; omega
    have g0 : 61 ≤ c.toNat := by omega
    have g1 : c.toNat ≤ 61 := by omega
    rw [show signB c last = [61, digB (c.toNat / 16), digB (c.toNat % 16)] from sign_coded (by exact plain_no last (by omega))]
    clear h
    go_enter Tryz.func130, Tryz.ntmps130
    go_wp2_with fail
    refine (d1 _).mono ?_
    rintro e w2 ⟨rfl, hw2⟩
    obtain rfl := hw2.symm
    clear hw2
    go_wp2_with fail
    refine (d2 _).mono ?_
    rintro e w3 ⟨rfl, hw3⟩
    obtain rfl := hw3.symm
    clear hw3 d1 d2
    go_wp2
    go_ret
    exact ⟨rfl, hbw.alloc (Nat.le_refl _) _⟩
  · have f0 : ((c.toNat : Int) == 32) = true := by rw [beq_iff_eq]; omega
    have g0 : 32 ≤ c.toNat := by omega
    have g1 : c.toNat ≤ 32 := by omega
    cases last with
    | true =>
      rw [show signB c true = [61, digB (c.toNat / 16), digB (c.toNat % 16)] from sign_coded (by exact plain_blank (by omega) true)]
      clear h
      go_enter Tryz.func130, Tryz.ntmps130
      go_wp2_with fail
      refine (d1 _).mono ?_
      rintro e w2 ⟨rfl, hw2⟩
      obtain rfl := hw2.symm
      clear hw2
      go_wp2_with fail
      refine (d2 _).mono ?_
      rintro e w3 ⟨rfl, hw3⟩
      obtain rfl := hw3.symm
      clear hw3 d1 d2
      go_wp2
      go_ret
      exact ⟨rfl, hbw.alloc (Nat.le_refl _) _⟩
    | false =>
      rw [show signB c false = [c] from sign_plain (by exact plain_blank (by omega) false)]
      clear h
      go_enter Tryz.func130, Tryz.ntmps130
      go_wp2
      go_ret
      exact ⟨rfl, hbw.alloc (Nat.le_refl _) _⟩
  · have f0 : ((c.toNat : Int) == 32) = false := by rw [beq_eq_false_iff_ne]; omega
    have f1 : ((c.toNat : Int) == 9) = true := by rw [beq_iff_eq]; omega
    have g0 : 9 ≤ c.toNat := by omega
    have g1 : c.toNat ≤ 9 := by omega
    cases last with
    | true =>
      rw [show signB c true = [61, digB (c.toNat / 16), digB (c.toNat % 16)] from sign_coded (by exact plain_blank (by omega) true)]
      clear h
      go_enter Tryz.func130, Tryz.ntmps130
      go_wp2_with fail
      refine (d1 _).mono ?_
      rintro e w2 ⟨rfl, hw2⟩
      obtain rfl := hw2.symm
      clear hw2
      go_wp2_with fail
      refine (d2 _).mono ?_
      rintro e w3 ⟨rfl, hw3⟩
      obtain rfl := hw3.symm
      clear hw3 d1 d2
      go_wp2
      go_ret
      exact ⟨rfl, hbw.alloc (Nat.le_refl _) _⟩
    | false =>
      rw [show signB c false = [c] from sign_plain (by exact plain_blank (by omega) false)]
      clear h
      go_enter Tryz.func130, Tryz.ntmps130
      go_wp2
      go_ret
      exact ⟨rfl, hbw.alloc (Nat.le_refl _) _⟩
  · have f0 : ((c.toNat : Int) == 32) = false := by rw [beq_eq_false_iff_ne]; omega
    have f1 : ((c.toNat : Int) == 9) = false := by rw [beq_eq_false_iff_ne]; omega
    have g0 : c.toNat < 9 := by omega
    rw [show signB c last = [61, digB (c.toNat / 16), digB (c.toNat % 16)] from sign_coded (by exact plain_no last (by omega))]
    clear h
    go_enter Tryz.func130, Tryz.ntmps130
    go_wp2_with fail
    refine (d1 _).mono ?_
    rintro e w2 ⟨rfl, hw2⟩
    obtain rfl := hw2.symm
    clear hw2
    go_wp2_with fail
    refine (d2 _).mono ?_
    rintro e w3 ⟨rfl, hw3⟩
    obtain rfl := hw3.symm
    clear hw3 d1 d2
    go_wp2
    go_ret
    exact ⟨rfl, hbw.alloc (Nat.le_refl _) _⟩
  · have f0 : ((c.toNat : Int) == 32) = false := by rw [beq_eq_false_iff_ne]; omega
    have f1 : ((c.toNat : Int) == 9) = false := by rw [beq_eq_false_iff_ne]; omega
    have g0 : 10 ≤ c.toNat := by omega
    have g1 : c.toNat ≤ 31 := by omega
    rw [show signB c last = [61, digB (c.toNat / 16), digB (c.toNat % 16)] from sign_coded (by exact plain_no last (by omega))]
    clear h
    go_enter Tryz.func130, Tryz.ntmps130
    go_wp2_with fail
    refine (d1 _).mono ?_
    rintro e w2 ⟨rfl, hw2⟩
    obtain rfl := hw2.symm
    clear hw2
    go_wp2_with fail
    refine (d2 _).mono ?_
    rintro e w3 ⟨rfl, hw3⟩
    obtain rfl := hw3.symm
    clear hw3 d1 d2
    go_wp2
    go_ret
    exact ⟨rfl, hbw.alloc (Nat.le_refl _) _⟩
  · have f0 : ((c.toNat : Int) == 32) = false := by rw [beq_eq_false_iff_ne]; omega
    have f1 : ((c.toNat : Int) == 9) = false := by rw [beq_eq_false_iff_ne]; omega
    have g0 : 126 < c.toNat := by omega
    rw [show signB c last = [61, digB (c.toNat / 16), digB (c.toNat % 16)] from sign_coded (by exact plain_no last (by omega))]
    clear h
    go_enter Tryz.func130, Tryz.ntmps130
    go_wp2_with fail
    refine (d1 _).mono ?_
    rintro e w2 ⟨rfl, hw2⟩
    obtain rfl := hw2.symm
    clear hw2
    go_wp2_with fail
    refine (d2 _).mono ?_
    rintro e w3 ⟨rfl, hw3⟩
    obtain rfl := hw3.symm
    clear hw3 d1 d2
    go_wp2
    go_ret
    exact ⟨rfl, hbw.alloc (Nat.le_refl _) _⟩

theorem dig_beq (c : UInt8) (k : Nat) : (((digB k).toNat : Int) == (c.toNat : Int)) = decide (digB k = c) := by
  rw [Bool.eq_iff_iff, beq_iff_eq, decide_eq_true_eq]
  constructor
  · intro e
    exact UInt8.toNat_inj.1 (by omega)
  · rintro rfl
    rfl
theorem undig_none {c : UInt8} (h : ∀ u, u < 16 → digB u ≠ c) : undigB c = none := by
  cases hu : undigB c with
  | none => rfl
  | some v => exact absurd (dig_undig hu).2 (h v (dig_undig hu).1)

set_option maxRecDepth 100000 in
set_option maxHeartbeats 1600000 in
theorem r4val_any (c : UInt8) (w : World) : Calls Tryz.prog 97 #[.int .u8 (c.toNat : Int)] w fun e w' => e = .returned (.int .i64 (((undigB c).getD 16 : Nat) : Int)) ∧ w' = w := by
  have hcl : c.toNat < 256 := c.toNat_lt
  go_enter Tryz.func97, Tryz.ntmps97
  go_wp2
  go_loop [3] (fun kv => ∃ k : Nat, k ≤ 16 ∧ kv = .int .i64 k ∧ ∀ u, u < k → digB u ≠ c) (fun kv => 16 - (intOf kv).toNat)
  case atStart => exact ⟨0, by omega, rfl, fun u hu => by omega⟩
  case round =>
    obtain ⟨k, hk, rfl, hno⟩ := hrel
    by_cases hlt : k < 16
    · have hcall := fun W => r4digit_any k hlt W
      have hbq := dig_beq c k
      by_cases hz : digB k = c
      · rw [decide_eq_true hz] at hbq
        have hr : undigB c = some k := by rw [← hz]; exact undig_dig k hlt
        have Hr := Lib.hid hr
        clear hno hz hr
        go_wp2_with fail
        refine (hcall _).mono ?_
        rintro e w2 ⟨rfl, hw2⟩
        obtain rfl := hw2.symm
        clear hw2 hcall
        go_wp2
        go_ret
        exact ⟨by rw [Hr.out]; rfl, rfl⟩
      · rw [decide_eq_false hz] at hbq
        have hno2 : Hid (∀ u, u < k + 1 → digB u ≠ c) := Lib.hid fun u hu => by
          by_cases e : u = k
          · rw [e]; exact hz
          · exact hno u (by omega)
        clear hno hz
        go_wp2_with fail
        refine (hcall _).mono ?_
        rintro e w2 ⟨rfl, hw2⟩
        obtain rfl := hw2.symm
        clear hw2 hcall
        go_wp2
        exact ⟨⟨k + 1, by omega, by go_num, hno2.out⟩, by simp [intOf]; omega⟩
    · have hr : undigB c = none := undig_none fun u hu => hno u (by omega)
      have Hr := Lib.hid hr
      clear hno hr
      go_wp2
      go_ret
      exact ⟨by rw [Hr.out]; rfl, rfl⟩
end Go.Proofs.YtidlpdiephlkhaaGreatDoor
namespace Go.Proofs.YtidlpdiephlkhaaGreatDoor
open Go.RowKit

theorem infoStr4 : (Tryz.prog.info? 9).map (fun i => (i.zero, i.size, i.bytes)) = some (some (.string ⟨#[]⟩), 1, 16) := by kernel_rfl
set_option maxRecDepth 100000 in
set_option maxHeartbeats 2000000 in
theorem r4lines_any (s : ByteArray) (w : World) (hs : s.size < 1000000) :
    Calls Tryz.prog 129 #[.string s] w fun e w' => ∃ v, e = .returned v ∧ w'.ownsRow w.heap.size 9 1 v (linesQ s.data.toList).length (((linesQ s.data.toList).map textQ).map .string) ∧ Below w.heap.size w w' := by
  obtain ⟨i0, hi, hz0, hz1, hz2⟩ := info_parts infoStr4
  have hown0 : w.ownsRow w.heap.size 9 1 (.slice none 0 0) ([] : List (List UInt8)).length ((([] : List (List UInt8)).map textQ).map .string) := World.ownsRow_nil _ _ _ _
  have Hl : Hid (s.data.toList.length = s.size) := Lib.hid rfl
  go_enter Tryz.func129, Tryz.ntmps129
  go_wp2
  go_loopw [3, 4, 5] (fun o fv iv wr => ∃ (f i : Nat) (ls : List (List UInt8)) (vo : Value), f ≤ i ∧ i ≤ s.size ∧ fv = .int .i64 f ∧ iv = .int .i64 i ∧ o = vo ∧ ls.length ≤ i ∧ wr.ownsRow w.heap.size 9 1 vo ls.length ((ls.map textQ).map .string) ∧ Below w.heap.size w wr ∧ linesQ s.data.toList = ls ++ glueQ ((s.data.toList.drop f).take (i - f)) (linesQ (s.data.toList.drop i))) (fun _ _ iv _ => s.size - (intOf iv).toNat)
  case atStart => exact ⟨0, 0, [], _, by omega, by omega, rfl, rfl, rfl, by simp, hown0, Below.refl _ _, by simp [glue_nil (lines_ne _)]⟩
  case round =>
    obtain ⟨f, i, ls, vo, hf, hi1, rfl, rfl, hvo, hll, hown, hbr, hst⟩ := hrel
    subst hvo
    have hbz := hbr.size
    by_cases hlt : i + 1 < s.size
    · have hdr : s.data.toList.drop i = s[i] :: s[i + 1] :: s.data.toList.drop (i + 2) := by
        rw [List.drop_eq_getElem_cons (by rw [Hl.out]; omega), List.drop_eq_getElem_cons (by rw [Hl.out]; omega)]
        rfl
      have htk : (s.data.toList.drop f).take (i - f) ++ [s[i]] = (s.data.toList.drop f).take (i + 1 - f) := by
        rw [show i + 1 - f = (i - f) + 1 by omega, List.take_add, List.drop_drop, show f + (i - f) = i by omega, hdr]
        rfl
      have hq2 : s.data.toList.drop (i + 1) = s[i + 1] :: s.data.toList.drop (i + 2) := by
        rw [List.drop_eq_getElem_cons (by rw [Hl.out]; omega)]
        rfl
      rw [hdr] at hst
      by_cases hce : s[i] = 13 ∧ s[i + 1] = 10
      · rw [hce.1, hce.2, glue_end] at hst
        have hn : linesQ s.data.toList = (ls ++ [(s.data.toList.drop f).take (i - f)]) ++ glueQ ((s.data.toList.drop (i + 2)).take (i + 2 - (i + 2))) (linesQ (s.data.toList.drop (i + 2))) := by
          rw [hst, Nat.sub_self, List.take_zero, glue_nil (lines_ne _), List.append_assoc]
          rfl
        have h13 : ((s[i].toNat : Int) == 13) = true := by rw [hce.1]; rfl
        have h10 : ((s[i + 1].toNat : Int) == 10) = true := by rw [hce.2]; rfl
        have hx : s.extract f i = textQ ((s.data.toList.drop f).take (i - f)) := cut_text s f i
        have Hn := Lib.hid hn
        have Hx := Lib.hid hx
        have hown2 := hown.alloc (.cells #[.string (s.extract f i)] 9)
        clear hst hdr htk hq2 hce hn hx
        go_wp2_with (at_builtin; refine wpList_append_own _ rfl _ _ 42 rfl w.heap.size 9 i0 (.string ⟨#[]⟩) 1 16 Tryz.underlying42 hi hz0 hz1 hz2 rfl (by decide) _ ls.length _ rfl hown2 ⟨wr.heap.size, 0, none⟩ 1 1 [.string (s.extract f i)] rfl rfl ?n1 ?n2 ?n3 ?n4 ?n5 ?_)
        case n1 =>
          intro j u hj
          rw [Addr.add_lit]
          have hj0 : j = 0 := by
            rcases Nat.eq_zero_or_pos j with h | h
            · exact h
            · rw [List.getElem?_eq_none (by simp; omega)] at hj
              cases hj
          subst hj0
          simp at hj
          subst hj
          go_simp
        case n2 =>
          intro u hu
          simp at hu
          subst hu
          rfl
        case n3 => unfold maxLen; omega
        case n4 => omega
        case n5 => simp; omega
        intro v' w3 hown3 hgrow3 _
        have hb3 : Below w.heap.size w w3 := (hbr.alloc hbz _).grown hgrow3 (by simp; omega) fun k hk => (hown2.lt k hk).1
        go_wp2
        go_roundw
        case rel =>
          refine ⟨i + 2, i + 2, ls ++ [(s.data.toList.drop f).take (i - f)], _, by omega, by omega, by go_num, by go_num, rfl, by simp; omega, ?_, hb3, Hn.out⟩
          rw [List.length_append, List.map_append, List.map_append]
          rw [Hx.out, ← List.map_map] at hown3
          exact hown3
        case measure => simp [intOf]; omega
      · rw [glue_byte hce, htk, ← hq2] at hst
        have Hn := Lib.hid hst
        clear hst hdr htk hq2
        by_cases h1 : s[i] = 13
        · have h13 : ((s[i].toNat : Int) == 13) = true := by rw [h1]; rfl
          have h10 : ((s[i + 1].toNat : Int) == 10) = false := by
            rw [beq_eq_false_iff_ne]
            intro e
            exact hce ⟨h1, UInt8.toNat_inj.1 (by have : (10 : UInt8).toNat = 10 := rfl; omega)⟩
          clear hce h1
          go_wp2
          go_roundw
          case rel => exact ⟨f, i + 1, ls, _, by omega, by omega, rfl, by go_num, rfl, by omega, hown, hbr, Hn.out⟩
          case measure => simp [intOf]; omega
        · have h13 : ((s[i].toNat : Int) == 13) = false := by
            rw [beq_eq_false_iff_ne]
            intro e
            exact h1 (UInt8.toNat_inj.1 (by have : (13 : UInt8).toNat = 13 := rfl; omega))
          clear hce h1
          go_wp2
          go_roundw
          case rel => exact ⟨f, i + 1, ls, _, by omega, by omega, rfl, by go_num, rfl, by omega, hown, hbr, Hn.out⟩
          case measure => simp [intOf]; omega
    · have hsh : linesQ (s.data.toList.drop i) = [s.data.toList.drop i] := lines_short (by rw [List.length_drop, Hl.out]; omega)
      have hfin : linesQ s.data.toList = ls ++ [s.data.toList.drop f] := by
        rw [hst, hsh]
        show ls ++ [(s.data.toList.drop f).take (i - f) ++ s.data.toList.drop i] = _
        have : s.data.toList.drop i = (s.data.toList.drop f).drop (i - f) := by rw [List.drop_drop, show f + (i - f) = i by omega]
        rw [this, List.take_append_drop]
      have hx : s.extract f s.size = textQ (s.data.toList.drop f) := by
        rw [cut_text, List.take_of_length_le (by rw [List.length_drop, Hl.out]; omega)]
      have Hfin := Lib.hid hfin
      have hown2 := hown.alloc (.cells #[.string (s.extract f s.size)] 9)
      have Hx := Lib.hid hx
      clear hst hsh hfin hx
      go_wp2_with (at_builtin; refine wpList_append_own _ rfl _ _ 42 rfl w.heap.size 9 i0 (.string ⟨#[]⟩) 1 16 Tryz.underlying42 hi hz0 hz1 hz2 rfl (by decide) _ ls.length _ rfl hown2 ⟨wr.heap.size, 0, none⟩ 1 1 [.string (s.extract f s.size)] rfl rfl ?n1 ?n2 ?n3 ?n4 ?n5 ?_)
      case n1 =>
        intro j u hj
        rw [Addr.add_lit]
        have hj0 : j = 0 := by
          rcases Nat.eq_zero_or_pos j with h | h
          · exact h
          · rw [List.getElem?_eq_none (by simp; omega)] at hj
            cases hj
        subst hj0
        simp at hj
        subst hj
        go_simp
      case n2 =>
        intro u hu
        simp at hu
        subst hu
        rfl
      case n3 => unfold maxLen; omega
      case n4 => omega
      case n5 => simp; omega
      intro v' w3 hown3 hgrow3 _
      have hb3 : Below w.heap.size w w3 := (hbr.alloc hbz _).grown hgrow3 (by simp; omega) fun k hk => (hown2.lt k hk).1
      go_wp2
      go_ret
      refine ⟨_, rfl, ?_, hb3⟩
      rw [Hfin.out, List.length_append, List.map_append, List.map_append]
      rw [Hx.out, ← List.map_map] at hown3
      exact hown3
end Go.Proofs.YtidlpdiephlkhaaGreatDoor
