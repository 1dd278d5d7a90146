/-
  Texts of this proof, put together: StC.
-/
import Derived.Test.YtcjmpkfcjcoobaaGreatX37
import Derived.RangeFuncNested
import Derived.Laws.BitsAllLaws
namespace Go.Proofs.YtcjmpkfcjcoobaaGreat
open Go.RowKit Go.Maps

/-- What is taken from a text's head: is all well so far, what is left, what was taken. -/
def takeP (k : Nat) (o : Bool) (s : List UInt8) : Bool × List UInt8 × List UInt8 := if k ≤ s.length then (o, s.drop k, s.take k) else (false, [], [])

theorem extract_text (s : List UInt8) (i j : Nat) : (textQ s).extract i j = textQ ((s.drop i).take (j - i)) := by
  refine ByteArray.ext (Array.toList_inj.1 ?_)
  rw [Lib.extract_data]
  rfl

set_option maxRecDepth 100000 in
set_option maxHeartbeats 2000000 in
theorem take_any (a b k : Nat) (o : Bool) (s : List UInt8) (hs : s.length ≤ 1000000000) (hk : k ≤ 1000000000) (hab : a ≠ b) (w : World) (ha : Boxed w a 9 (.string (textQ s))) (hb : Boxed w b 4 (.bool o)) :
    Calls Tryz.prog 33 #[.int .i64 (k : Int), .pointer (some ⟨a, 0, none⟩), .pointer (some ⟨b, 0, none⟩)] w fun e w' => e = .returned (.string (textQ (takeP k o s).2.2)) ∧ Boxed w' a 9 (.string (textQ (takeP k o s).2.1)) ∧ Boxed w' b 4 (.bool (takeP k o s).1) ∧ Turned (fun x => x = a ∨ x = b) w w' := by
  obtain ⟨S, hS⟩ : ∃ S, textQ s = S := ⟨_, rfl⟩
  have hsz : S.size = s.length := by rw [← hS]; rfl
  rw [hS] at ha
  have ca := ha.cell
  have fa := ha.frozen
  have cb := hb.cell
  have fb := hb.frozen
  have H := Lib.hid (And.intro ha (And.intro hb hS))
  clear ha hb hS
  by_cases hks : k ≤ s.length
  · have g1 : ¬ ((S.size : Int) < (k : Int)) := by omega
    have g2 : k ≤ S.size := by omega
    clear hks
    go_enter Tryz.func33, Tryz.ntmps33
    go_wp2
    --@a
    obtain ⟨ha, hb, hS⟩ := H.out
    have e1 : S.extract 0 k = textQ (s.take k) := by rw [← hS, extract_text, List.drop_zero, Nat.sub_zero]
    have e2 : S.extract k s.length = textQ (s.drop k) := by rw [← hS, extract_text, List.take_of_length_le (by rw [List.length_drop]; omega)]
    go_ret
    unfold takeP
    rw [if_pos (by omega)]
    rw [e2]
    refine ⟨?_, ha.set _, hb.other (Ne.symm hab) _, (Turned.refl _ _).set' (.inl rfl)⟩
    show Ending.returned (Value.string (S.extract 0 k)) = _
    rw [e1]
  · have g1 : (S.size : Int) < (k : Int) := by omega
    go_enter Tryz.func33, Tryz.ntmps33
    go_wp2
    --@b
    obtain ⟨ha, hb, hS⟩ := H.out
    go_ret
    unfold takeP
    rw [if_neg hks]
    exact ⟨rfl, (ha.other hab _).set _, (hb.set _).other (Ne.symm hab) _, ((Turned.refl _ _).set' (.inr rfl)).set' (.inl rfl)⟩
theorem or_256 (n b : Nat) (hn : n < 16777216) (hb : b < 256) : bits .or .u32 ((n : Int) * 256 % 4294967296) ((b : Int) % 4294967296) = ((n * 256 + b : Nat) : Int) := by
  rw [show (n : Int) * 256 % 4294967296 = ((n * 256 : Nat) : Int) by omega, show (b : Int) % 4294967296 = ((b : Nat) : Int) by omega, u32_or_nat (n * 256) b (by omega) (by omega)]
  have := Nat.shiftLeft_add_eq_or_of_lt (show b < 2 ^ 8 from hb) n
  rw [Nat.shiftLeft_eq] at this
  rw [← this]
/-- A number, the highest byte first. -/
def valF (n : Nat) (l : List UInt8) : Nat := l.foldl (fun n b => n * 256 + b.toNat) n
theorem numF_val : ∀ (l : List UInt8) (n : Nat), n < 256 ^ (4 - l.length) → l.length ≤ 4 → l.foldl (fun n b => bits .or .u32 (n * 256 % 4294967296) ((b.toNat : Int) % 4294967296)) (n : Int) = (valF n l : Int)
  | [], n, _, _ => rfl
  | b :: l, n, hn, hl => by
    rw [List.length_cons] at hn hl
    have hb : b.toNat < 256 := b.toNat_lt
    have h1 : n * 256 + b.toNat < 256 ^ (4 - l.length) := by
      rw [show 4 - l.length = (4 - (l.length + 1)) + 1 by omega, Nat.pow_succ]
      have := Nat.mul_le_mul_right 256 (show n + 1 ≤ 256 ^ (4 - (l.length + 1)) from hn)
      omega
    have h2 : n < 16777216 := by
      refine Nat.lt_of_lt_of_le hn ?_
      exact Nat.pow_le_pow_right (by decide) (show 4 - (l.length + 1) ≤ 3 by omega)
    show l.foldl _ (bits .or .u32 ((n : Int) * 256 % 4294967296) ((b.toNat : Int) % 4294967296)) = _
    rw [or_256 n b.toNat h2 hb]
    exact numF_val l _ h1 (by omega)
theorem numB_val (l : List UInt8) (h : l.length ≤ 4) : numB l = (valF 0 l : Int) := numF_val l 0 (Nat.pow_pos (by decide)) h

theorem head_takes (x : UInt8) (q : List UInt8) {o2 o3 o4 o5 : Bool} {s2 s3 s4 s5 t2 t3 t4 t5 : List UInt8} (h2 : takeP 2 true q = (o2, s2, t2)) (h3 : takeP 2 o2 s2 = (o3, s3, t3)) (h4 : takeP (valF 0 t2) o3 s3 = (o4, s4, t4)) (h5 : takeP (valF 0 t3) o4 s4 = (o5, s5, t5)) :
    headL (x :: q) = if o5 = false ∨ 1 < x.toNat ∨ (x = 1 ∧ t5 ≠ []) then none else some (⟨t4, t5, x == 1⟩, s5) := by
  have dead : ∀ (k : Nat) (s : List UInt8), (takeP k false s).1 = false := fun k s => by unfold takeP; split <;> rfl
  match q, h2 with
  | [], h2 =>
    have e2 : o2 = false := by have := congrArg (·.1) h2; simpa [takeP] using this.symm
    subst e2
    have e3 : o3 = false := by have := congrArg (·.1) h3; rw [dead] at this; exact this.symm
    subst e3
    have e4 : o4 = false := by have := congrArg (·.1) h4; rw [dead] at this; exact this.symm
    subst e4
    have e5 : o5 = false := by have := congrArg (·.1) h5; rw [dead] at this; exact this.symm
    rw [if_pos (.inl e5)]
    rfl
  | [_], h2 =>
    have e2 : o2 = false := by have := congrArg (·.1) h2; simpa [takeP] using this.symm
    subst e2
    have e3 : o3 = false := by have := congrArg (·.1) h3; rw [dead] at this; exact this.symm
    subst e3
    have e4 : o4 = false := by have := congrArg (·.1) h4; rw [dead] at this; exact this.symm
    subst e4
    have e5 : o5 = false := by have := congrArg (·.1) h5; rw [dead] at this; exact this.symm
    rw [if_pos (.inl e5)]
    rfl
  | k1 :: k2 :: q, h2 =>
    have e2 : (true, q, [k1, k2]) = (o2, s2, t2) := by rw [← h2]; simp [takeP]
    obtain ⟨rfl, e9⟩ := Prod.mk.inj e2
    obtain ⟨rfl, rfl⟩ := Prod.mk.inj e9
    match q, h3 with
    | [], h3 =>
      have e3 : o3 = false := by have := congrArg (·.1) h3; simpa [takeP] using this.symm
      subst e3
      have e4 : o4 = false := by have := congrArg (·.1) h4; rw [dead] at this; exact this.symm
      subst e4
      have e5 : o5 = false := by have := congrArg (·.1) h5; rw [dead] at this; exact this.symm
      rw [if_pos (.inl e5)]
      rfl
    | [_], h3 =>
      have e3 : o3 = false := by have := congrArg (·.1) h3; simpa [takeP] using this.symm
      subst e3
      have e4 : o4 = false := by have := congrArg (·.1) h4; rw [dead] at this; exact this.symm
      subst e4
      have e5 : o5 = false := by have := congrArg (·.1) h5; rw [dead] at this; exact this.symm
      rw [if_pos (.inl e5)]
      rfl
    | v1 :: v2 :: r, h3 =>
      have e3 : (true, r, [v1, v2]) = (o3, s3, t3) := by rw [← h3]; simp [takeP]
      obtain ⟨rfl, e9⟩ := Prod.mk.inj e3
      obtain ⟨rfl, rfl⟩ := Prod.mk.inj e9
      have n1 : valF 0 [k1, k2] = val2 k1 k2 := by simp [valF, val2]
      have n2 : valF 0 [v1, v2] = val2 v1 v2 := by simp [valF, val2]
      rw [n1] at h4
      rw [n2] at h5
      rw [show headL (x :: k1 :: k2 :: v1 :: v2 :: r) = if 1 < x.toNat ∨ r.length < val2 k1 k2 + val2 v1 v2 ∨ (x = 1 ∧ 0 < val2 v1 v2) then none else some (⟨r.take (val2 k1 k2), (r.drop (val2 k1 k2)).take (val2 v1 v2), x == 1⟩, r.drop (val2 k1 k2 + val2 v1 v2)) from rfl]
      by_cases hk : val2 k1 k2 ≤ r.length
      · have e4 : (true, r.drop (val2 k1 k2), r.take (val2 k1 k2)) = (o4, s4, t4) := by rw [← h4]; simp [takeP, hk]
        obtain ⟨rfl, e9⟩ := Prod.mk.inj e4
        obtain ⟨rfl, rfl⟩ := Prod.mk.inj e9
        by_cases hv : val2 v1 v2 ≤ (r.drop (val2 k1 k2)).length
        · have e5 : (true, (r.drop (val2 k1 k2)).drop (val2 v1 v2), (r.drop (val2 k1 k2)).take (val2 v1 v2)) = (o5, s5, t5) := by rw [← h5]; unfold takeP; rw [if_pos hv]
          obtain ⟨rfl, e9⟩ := Prod.mk.inj e5
          obtain ⟨rfl, rfl⟩ := Prod.mk.inj e9
          have hl : ((r.drop (val2 k1 k2)).take (val2 v1 v2)).length = val2 v1 v2 := by rw [List.length_take]; omega
          have hne : ((r.drop (val2 k1 k2)).take (val2 v1 v2) ≠ []) ↔ 0 < val2 v1 v2 := by
            rw [← List.length_pos_iff, hl]
          rw [List.length_drop] at hv
          have hc : (1 < x.toNat ∨ r.length < val2 k1 k2 + val2 v1 v2 ∨ (x = 1 ∧ 0 < val2 v1 v2)) ↔ (true = false ∨ 1 < x.toNat ∨ (x = 1 ∧ (r.drop (val2 k1 k2)).take (val2 v1 v2) ≠ [])) := by
            rw [hne]
            constructor
            · rintro (h | h | h)
              · exact .inr (.inl h)
              · omega
              · exact .inr (.inr h)
            · rintro (h | h | h)
              · cases h
              · exact .inl h
              · exact .inr (.inr h)
          simp only [hc, List.drop_drop]
        · have e5 : o5 = false := by have := congrArg (·.1) h5; unfold takeP at this; rw [if_neg hv] at this; exact this.symm
          rw [List.length_drop] at hv
          rw [if_pos (.inr (.inl (by omega))), if_pos (.inl e5)]
      · have e4 : o4 = false := by have := congrArg (·.1) h4; unfold takeP at this; rw [if_neg hk] at this; exact this.symm
        subst e4
        have e5 : o5 = false := by have := congrArg (·.1) h5; rw [dead] at this; exact this.symm
        rw [if_pos (.inr (.inl (by omega))), if_pos (.inl e5)]
end Go.Proofs.YtcjmpkfcjcoobaaGreat
