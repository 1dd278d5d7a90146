/-
  What lattice.parseWith and Parse come to, for any text: told by a plain function. Condition: the text is shorter than 4294967281 bytes.
-/
import Derived.Test.YtkjiaklpffnhlaaDoorFind
import Derived.WalkSmall
namespace Go.Proofs.YtkjiaklpffnhlaaDoor
open Go.RowKit Go.Maps

/-- A text's label, by a finder of levels and one of compartments. -/
def parseF (fl fc : ByteArray → Option Nat) (s : List UInt8) : Option (Nat × Int) :=
  match fl ⟨(Lib.cut s [47, 47]).1.toArray⟩ with
  | none => none
  | some l => if (Lib.cut s [47, 47]).2.2 = true then (match compsF fc (splitB 47 (Lib.cut s [47, 47]).2.1) with | none => none | some c => some (l, c)) else some (l, 0)
def parseV (r : Option (Nat × Int)) : Value := match r with
  | none => .tuple #[.agg #[.int .i64 0, .int .u64 0], .int .i64 2]
  | some (l, c) => .tuple #[.agg #[.int .i64 l, .int .u64 c], .int .i64 0]

theorem cut_len (s : List UInt8) (sep : List UInt8) : (Lib.cut s sep).1.length ≤ s.length ∧ (Lib.cut s sep).2.1.length ≤ s.length := by
  unfold Lib.cut
  split
  · simp only [List.length_take, List.length_drop]; omega
  · simp

theorem Finds.later {g : Nat} {p : Addr} {B : Nat} {w w' : World} {f : ByteArray → Option Nat} (h : Finds g p B w f) (hb : Below B w w') : Finds g p B w' f := fun W s hW hs => h W s (hb.trans hW) hs

set_option maxRecDepth 100000 in
set_option maxHeartbeats 2000000 in
theorem parseWith_any (g B : Nat) (p1 p2 : Addr) (fl fc : ByteArray → Option Nat) (s : ByteArray) (m : Int) (w : World) (hs : s.size < 4294967281) (hm : w.cell? ⟨0, 0, none⟩ = some (.int .i64 m))
    (eg : ∀ args w, (callFunc g args).run Tryd.prog w = .ok (.enter g args) w) (hB : B ≤ w.heap.size) (h1 : Finds g p1 B w fl) (h2 : Finds g p2 B w fc) (hf64 : ∀ s b, fc s = some b → b < 64) :
    Calls Tryd.prog 40 #[.string s, .func (.func g) #[] #[.pointer (some p1)], .func (.func g) #[] #[.pointer (some p2)]] w fun e w' => e = .returned (parseV (parseF fl fc s.data.toList)) ∧ Below w.heap.size w w' := by
  obtain ⟨hc1, hc2⟩ := cut_len s.data.toList [47, 47]
  have hsd : s.data.toList.length = s.size := rfl
  rw [hsd] at hc1 hc2
  have h0 : 0 < w.heap.size := by
    rcases Nat.eq_zero_or_pos w.heap.size with h | h
    · rw [World.cell?] at hm
      rw [Array.getElem?_eq_none (by omega)] at hm
      simp at hm
    · exact h
  obtain ⟨cu, hcu⟩ : ∃ cu, Lib.cut s.data.toList [47, 47] = cu := ⟨_, rfl⟩
  have hcut := fun w hm => Tryd.strings_Cut s ⟨#[47, 47]⟩ m w hs hm
  have hsep : (⟨#[47, 47]⟩ : ByteArray).data.toList = [47, 47] := rfl
  rw [hsep] at hcut
  simp only [hcu] at hcut hc1 hc2
  obtain ⟨name, rest, more⟩ := cu
  simp only at hcut hc1 hc2
  have hpf : parseF fl fc s.data.toList = match fl ⟨name.toArray⟩ with
    | none => none
    | some l => if more = true then (match compsF fc (splitB 47 rest) with | none => none | some c => some (l, c)) else some (l, 0) := by unfold parseF; rw [hcu]
  clear hcu hsep
  have hb0 : ∀ nq, Below w.heap.size w ((w.alloc (.cells #[.int .i64 0, .int .u64 0] 27)).drewN nq) := fun nq => below_drewN ((Below.refl _ _).alloc (Nat.le_refl _) _) nq
  cases hl : fl ⟨name.toArray⟩ with
  | none =>
    rw [hl] at hpf
    have hfin : parseV (parseF fl fc s.data.toList) = .tuple #[.agg #[.int .i64 0, .int .u64 0], .int .i64 2] := by rw [hpf]; rfl
    rw [hfin]
    have hd := fun nq => h1 ((w.alloc (.cells #[.int .i64 0, .int .u64 0] 27)).drewN nq) ⟨name.toArray⟩ ((hb0 nq).mono hB) (by show name.length ≤ maxLen; unfold maxLen; omega)
    simp only [hl, Option.getD_none, Option.isSome_none] at hd
    clear hpf hfin hl
    go_enter Tryd.func40, Tryd.ntmps40
    go_wp2_with fail
    refine (hcut _ (by go_simp)).mono ?_
    rintro e w1 ⟨rfl, nq, rfl⟩
    go_wp2_with fail
    refine (hd nq).mono ?_
    rintro e w1 ⟨rfl, rfl⟩
    go_wp2
    exact bodyPost_ret (by simp [results, Tryd.results40, go_sem]) rfl ⟨rfl, ((hb0 nq).setCell (p := ⟨w.heap.size, 0, none⟩) (Nat.le_refl _) _).setCell (p := ⟨w.heap.size, 1, none⟩) (Nat.le_refl _) _⟩
  | some l =>
    rw [hl] at hpf
    have hd := fun nq => h1 ((w.alloc (.cells #[.int .i64 0, .int .u64 0] 27)).drewN nq) ⟨name.toArray⟩ ((hb0 nq).mono hB) (by show name.length ≤ maxLen; unfold maxLen; omega)
    simp only [hl, Option.getD_some, Option.isSome_some] at hd
    cases more with
    | false =>
      have hfin : parseV (parseF fl fc s.data.toList) = .tuple #[.agg #[.int .i64 l, .int .u64 0], .int .i64 0] := by rw [hpf]; rfl
      rw [hfin]
      clear hpf hfin hl
      go_enter Tryd.func40, Tryd.ntmps40
      go_wp2_with fail
      refine (hcut _ (by go_simp)).mono ?_
      rintro e w1 ⟨rfl, nq, rfl⟩
      go_wp2_with fail
      refine (hd nq).mono ?_
      rintro e w1 ⟨rfl, rfl⟩
      go_wp2
      exact bodyPost_ret (by simp [results, Tryd.results40, go_sem]) rfl ⟨rfl, ((hb0 nq).setCell (p := ⟨w.heap.size, 0, none⟩) (Nat.le_refl _) _).setCell (p := ⟨w.heap.size, 1, none⟩) (Nat.le_refl _) _⟩
    | true =>
      have hcomps := fun w1 (hb : Below B w w1) => comps_any g B p2 fc ⟨rest.toArray⟩ w1 (by show rest.length ≤ maxLen; unfold maxLen; omega) eg (Nat.le_trans hB hb.size) (h2.later hb) hf64
      have hrd : (⟨rest.toArray⟩ : ByteArray).data.toList = rest := rfl
      rw [hrd] at hcomps
      cases hcf : compsF fc (splitB 47 rest) with
      | none =>
        simp only [if_pos, hcf] at hpf
        simp only [hcf, Option.getD_none, Option.isSome_none] at hcomps
        have hfin : parseV (parseF fl fc s.data.toList) = .tuple #[.agg #[.int .i64 0, .int .u64 0], .int .i64 2] := by rw [hpf]; rfl
        rw [hfin]
        have Hcomps := Lib.hid hcomps
        clear hpf hfin hl hcf hcomps hrd
        go_enter Tryd.func40, Tryd.ntmps40
        go_wp2_with fail
        refine (hcut _ (by go_simp)).mono ?_
        rintro e w1 ⟨rfl, nq, rfl⟩
        go_wp2_with fail
        refine (hd nq).mono ?_
        rintro e w1 ⟨rfl, rfl⟩
        go_wp2_with fail
        refine (Hcomps.out _ ((hb0 nq).mono hB)).mono ?_
        rintro e w2 ⟨rfl, hb2⟩
        have k0 : w2.cell? ⟨w.heap.size, 0, none⟩ = some (.int .i64 0) := by rw [hb2.cell (by simp)]; go_simp
        have k1 : w2.cell? ⟨w.heap.size, 1, none⟩ = some (.int .u64 0) := by rw [hb2.cell (by simp)]; go_simp
        have q0 : w2.frozen? ⟨w.heap.size, 0, none⟩ = false := by rw [hb2.frozen (by simp)]; go_simp
        have q1 : w2.frozen? ⟨w.heap.size, 1, none⟩ = false := by rw [hb2.frozen (by simp)]; go_simp
        have hbw : Below w.heap.size w w2 := (hb0 nq).trans (hb2.mono (by simp))
        go_wp2
        exact bodyPost_ret (by simp [results, Tryd.results40, go_sem, k0, k1]) rfl ⟨rfl, (hbw.setCell (p := ⟨w.heap.size, 0, none⟩) (Nat.le_refl _) _).setCell (p := ⟨w.heap.size, 1, none⟩) (Nat.le_refl _) _⟩
      | some c =>
        simp only [if_pos, hcf] at hpf
        simp only [hcf, Option.getD_some, Option.isSome_some] at hcomps
        have hfin : parseV (parseF fl fc s.data.toList) = .tuple #[.agg #[.int .i64 l, .int .u64 c], .int .i64 0] := by rw [hpf]; rfl
        rw [hfin]
        have Hcomps := Lib.hid hcomps
        clear hpf hfin hl hcf hcomps hrd
        go_enter Tryd.func40, Tryd.ntmps40
        go_wp2_with fail
        refine (hcut _ (by go_simp)).mono ?_
        rintro e w1 ⟨rfl, nq, rfl⟩
        go_wp2_with fail
        refine (hd nq).mono ?_
        rintro e w1 ⟨rfl, rfl⟩
        go_wp2_with fail
        refine (Hcomps.out _ ((hb0 nq).mono hB)).mono ?_
        rintro e w2 ⟨rfl, hb2⟩
        have k0 : w2.cell? ⟨w.heap.size, 0, none⟩ = some (.int .i64 0) := by rw [hb2.cell (by simp)]; go_simp
        have k1 : w2.cell? ⟨w.heap.size, 1, none⟩ = some (.int .u64 0) := by rw [hb2.cell (by simp)]; go_simp
        have q0 : w2.frozen? ⟨w.heap.size, 0, none⟩ = false := by rw [hb2.frozen (by simp)]; go_simp
        have q1 : w2.frozen? ⟨w.heap.size, 1, none⟩ = false := by rw [hb2.frozen (by simp)]; go_simp
        have hbw : Below w.heap.size w w2 := (hb0 nq).trans (hb2.mono (by simp))
        go_wp2
        exact bodyPost_ret (by simp [results, Tryd.results40, go_sem, k0, k1]) rfl ⟨rfl, (hbw.setCell (p := ⟨w.heap.size, 0, none⟩) (Nat.le_refl _) _).setCell (p := ⟨w.heap.size, 1, none⟩) (Nat.le_refl _) _⟩
end Go.Proofs.YtkjiaklpffnhlaaDoor
