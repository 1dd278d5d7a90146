/-
  Slices of strings that come in: one predicate, kept over what a call of ours does to memory; and what lattice's own use of slices.Grow comes to at nil. No program but the translation's own facts.
-/
import Derived.Test.YtkjiaklpffnhlaaDoorRows
import Derived.WalkKit
import Derived.WalkSpells
import Derived.WalkLawsBesides
import Derived.Lib.Hide
import Derived.Maps.OwnSet
import Derived.Lib.AppendZerosOnto
import Derived.Lib.SliceRun
import Derived.Laws.AppendOwnNone
namespace Go.Proofs.YtkjiaklpffnhlaaDoor
open Go.RowKit

/-- The slice (A, n, c) reads, in w, as the strings ss; its cells lie below block B. -/
def Strs (w : World) (B : Nat) (A : Option Addr) (n c : Nat) (ss : List ByteArray) : Prop :=
  ss.length = n ∧ ((A = none ∧ n = 0 ∧ c = 0) ∨ ∃ ad, A = some ad ∧ (n = 0 ∨ ∃ b off, ad = ⟨b, off, none⟩ ∧ b < B ∧ ∀ j, j < n → w.cell? ⟨b, off + j, none⟩ = some (.string (ss.getD j ByteArray.empty))))

section
variable {w w' : World} {B B' n c : Nat} {A : Option Addr} {ss : List ByteArray}
theorem Strs.len (h : Strs w B A n c ss) : ss.length = n := h.1
theorem Strs.at_ (h : Strs w B A n c ss) {k : Nat} (hk : k < n) : ∃ b off, A = some ⟨b, off, none⟩ ∧ b < B ∧ ∀ j, j < n → w.cell? ⟨b, off + j, none⟩ = some (.string (ss.getD j ByteArray.empty)) := by
  rcases h.2 with ⟨_, h0, _⟩ | ⟨ad, rfl, h0 | ⟨b, off, rfl, hb, hc⟩⟩
  · omega
  · omega
  · exact ⟨b, off, rfl, hb, hc⟩
theorem Strs.keep (h : Strs w B A n c ss) (hk : ∀ p : Addr, p.block < B → w'.cell? p = w.cell? p) : Strs w' B A n c ss := by
  refine ⟨h.1, ?_⟩
  rcases h.2 with h0 | ⟨ad, rfl, h0 | ⟨b, off, rfl, hb, hc⟩⟩
  · exact .inl h0
  · exact .inr ⟨ad, rfl, .inl h0⟩
  · exact .inr ⟨_, rfl, .inr ⟨b, off, rfl, hb, fun j hj => (hk _ hb).trans (hc j hj)⟩⟩
theorem Strs.more (h : Strs w B A n c ss) (hB : B ≤ B') : Strs w B' A n c ss := by
  refine ⟨h.1, ?_⟩
  rcases h.2 with h0 | ⟨ad, rfl, h0 | ⟨b, off, rfl, hb, hc⟩⟩
  · exact .inl h0
  · exact .inr ⟨ad, rfl, .inl h0⟩
  · exact .inr ⟨_, rfl, .inr ⟨b, off, rfl, by omega, hc⟩⟩
theorem Strs.below (h : Strs w B A n c ss) (hb : Below B w w') : Strs w' B A n c ss := h.keep fun _ hp => hb.cell hp
theorem Strs.alloc (h : Strs w B A n c ss) (hB : B ≤ w.heap.size) (o : Obj) : Strs (w.alloc o) B A n c ss := h.below ((Below.refl _ _).alloc hB o)
/-- What the call owns reads as the strings. -/
theorem Strs.of_own {base : Nat} {v : Value} {e : TypeId} (h : w.ownsRow base e 1 v n (ss.map .string)) : ∃ A c, v = .slice A n c ∧ Strs w w.heap.size A n c ss := by
  have hl : ss.length = n := by simpa using h.1
  rcases h.2 with ⟨rfl, rfl⟩ | ⟨g, cap, cur, rfl, hb, hg, hnc, hcm, hcs, ht⟩
  · exact ⟨none, 0, rfl, hl, .inl ⟨rfl, rfl, rfl⟩⟩
  · refine ⟨_, _, rfl, hl, .inr ⟨_, rfl, .inr ⟨g, 0, rfl, ?_, fun j hj => ?_⟩⟩⟩
    · exact (h.lt g rfl).2
    · have hc := h.cells (g := g) rfl j (.string (ss.getD j ByteArray.empty)) (by rw [List.getElem?_map, List.getElem?_eq_getElem (by omega)]; simp [List.getD, List.getElem?_eq_getElem (show j < ss.length by omega)])
      rw [Addr.add_lit] at hc
      simpa using hc
end

theorem infoStr : (Tryd.prog.info? 9).map (fun i => (i.zero, i.size, i.bytes)) = some (some (.string ⟨#[]⟩), 1, 16) := by kernel_rfl

set_option maxHeartbeats 1000000 in
set_option maxRecDepth 100000 in
/-- slices.Grow at nil: a slice of no element, in memory of the call's own, or nil. -/
theorem grow_nil (n : Nat) (w : World) (hn : n * 16 ≤ 140737488355328) :
    Calls Tryd.prog 58 #[.slice none 0 0, .int .i64 n] w fun e w' => ∃ v, e = .returned v ∧ w'.ownsRow w.heap.size 9 1 v 0 [] ∧ Below w.heap.size w w' := by
  by_cases h0 : n = 0
  · subst h0
    go_enter Tryd.func58, Tryd.ntmps58
    go_wp2
    go_ret
    exact ⟨_, rfl, World.ownsRow_nil _ _ _ _, Below.refl _ _⟩
  · obtain ⟨i0, hi, hz0, hz1, hz2⟩ := info_parts infoStr
    have h1 : ¬ ((n : Int) < 0) := by omega
    have h4 : 0 < (n : Int) := by omega
    have hw64 : wrap64 (n : Int) = n := by unfold wrap64; omega
    have hold : (Builtin.firstCells i0.size 0 (.slice none 0 0)).run Tryd.prog w.drew = .ok #[] w.drew := by simp [Builtin.firstCells]
    have hrz : ∀ ty, (Builtin.append_ #[22, 3] ty #[.slice none 0 0, .int .i64 n]).run Tryd.prog w =
        .ok (.slice (some ⟨w.heap.size, 0, none⟩) n (grownCap w n 0 9)) (w.drew.alloc (.cells (Builtin.zeroCells (Value.string ⟨#[]⟩).cells n ++ Builtin.zeroCells (Value.string ⟨#[]⟩).cells (grownCap w n 0 9 - n)) 9)) := fun ty => by
      have h := Lib.run_append_grow_zeros w 22 3 ty 9 i0 (.string ⟨#[]⟩) .i64 .i64 Tryd.underlying22 Tryd.underlying3 hi hz0 none 0 0 [] (by simpa using hold) n (by omega) (by omega) (by omega) (by omega)
        (by rw [hz2]; omega) (by rw [Nat.zero_add]; exact growslice_fits (by omega) (by rw [hz2]; exact hn))
      simpa using h
    have hGn : n ≤ grownCap w n 0 9 := grownCap_ge w _ _ _
    have hGm : grownCap w n 0 9 ≤ maxLen := grownCap_le_maxLen w n 0 9 (by unfold maxLen; omega)
    obtain ⟨G, hG⟩ : ∃ G, G = grownCap w n 0 9 := ⟨_, rfl⟩
    rw [← hG] at hrz hGn hGm
    unfold maxLen at hGm
    clear hold hG
    go_enter Tryd.func58, Tryd.ntmps58
    go_wp2_with (at_builtin; refine Lib.wpList_append_run _ rfl _ _ _ _ rfl _ _ rfl rfl _ _ (hrz _) ?_)
    go_ret
    refine ⟨.slice (some ⟨w.heap.size, 0, none⟩) 0 G, rfl, ?_, ((Below.refl _ _).alloc (Nat.le_refl _) _).drew⟩
    have hm := World.ownsRow_made (e := 9) (base := w.heap.size) (size := 1) w (Builtin.zeroCells #[Value.string { data := #[] }] n ++ Builtin.zeroCells #[Value.string { data := #[] }] (G - n)) G (Nat.le_refl _) (by unfold maxLen; omega)
      (by simp only [Array.size_append, size_zeroCells]; simp; omega)
    exact hm

theorem strs_oneCell (ss : List ByteArray) : ∀ u ∈ ss.map Value.string, u.oneCell' = true := by
  intro u hu
  obtain ⟨x, _, rfl⟩ := List.mem_map.1 hu
  rfl
theorem strs_cells {w : World} {b off n : Nat} {ss : List ByteArray} (hl : ss.length = n) (hc : ∀ j, j < n → w.cell? ⟨b, off + j, none⟩ = some (.string (ss.getD j ByteArray.empty))) :
    ∀ j u, (ss.map Value.string)[j]? = some u → w.cell? ((⟨b, off, none⟩ : Addr).add j) = some u := by
  intro j u hj
  have hjn : j < ss.length := by
    have := (List.getElem?_eq_some_iff.1 hj).1
    simpa using this
  rw [Addr.add_lit, hc j (by omega)]
  rw [List.getElem?_map, List.getElem?_eq_getElem hjn] at hj
  simpa [List.getD, List.getElem?_eq_getElem hjn] using hj

/-- An append of a slice of strings that reads as ss onto a row of the call's own, nil or empty or not. -/
theorem append_strs {w : World} {ops : Array Oper} {rest : List Oper} {o : Oper} {a : Act} {Q : Exit → Act → World → Prop} (hgd : o.guard = none) (s x : Operand)
    (ho : o.op = .call { callee := .builtin .append, args := #[s, x], argTypes := #[22, 22] })
    (base B : Nat) (v : Value) (n : Nat) (xs : List Value) (hs : a.eval s = v) (hown : w.ownsRow base 9 1 v n xs) (A : Option Addr) (m c : Nat) (ss : List ByteArray) (hx : a.eval x = .slice A m c) (hr : Strs w B A m c ss)
    (h63 : n + m ≤ maxLen) (hbytes : (n + m) * 16 ≤ 140737488355328) (hbase : base ≤ w.heap.size)
    (h : ∀ v' w', w'.ownsRow base 9 1 v' (n + m) (xs ++ ss.map .string) → w.grownBy w' v.ownBlock → wpList Tryd.prog ops Q rest (a.put o.dst v') w') : wpList Tryd.prog ops Q (o :: rest) a w := by
  obtain ⟨i0, hi, hz0, hz1, hz2⟩ := info_parts infoStr
  rcases hr.2 with ⟨rfl, rfl, rfl⟩ | ⟨ad, rfl, h0⟩
  · have hn : ss = [] := List.eq_nil_of_length_eq_zero hr.1
    subst hn
    exact wpList_append_own_none hgd s x 22 ho base 9 i0 1 Tryd.underlying22 hi v n xs hs hown hx (h v w (by simpa using hown) (World.grownBy.refl w _))
  · refine wpList_append_own w hgd s x 22 ho base 9 i0 (.string ⟨#[]⟩) 1 16 Tryd.underlying22 hi hz0 hz1 hz2 rfl (by decide) v n xs hs hown ad m c (ss.map .string) hx (by simp [hr.1]) ?_ (strs_oneCell ss) h63 hbytes hbase fun v' w' h1 h2 _ => h v' w' h1 h2
    rcases h0 with rfl | ⟨b, off, rfl, _, hc⟩
    · have hn : ss = [] := List.eq_nil_of_length_eq_zero hr.1
      subst hn
      intro j u hj
      simp at hj
    · exact strs_cells hr.1 hc

set_option maxHeartbeats 1000000 in
set_option maxRecDepth 100000 in
/-- slices.Concat of two slices of strings, the first not empty: one slice of the strings of both, in memory of the call's own. -/
theorem concat_two (g B n c n' c' : Nat) (A A' : Option Addr) (ss ss' : List ByteArray) (w : World) (hg0 : w.cell? ⟨g, 0, none⟩ = some (.slice A n c)) (hg1 : w.cell? ⟨g, 1, none⟩ = some (.slice A' n' c'))
    (hg : g < w.heap.size) (hB : B ≤ w.heap.size) (h1 : Strs w B A n c ss) (h2 : Strs w B A' n' c' ss') (hn : 1 ≤ n) (hn1 : n ≤ 1000) (hn2 : n' ≤ 1000) :
    Calls Tryd.prog 43 #[.slice (some ⟨g, 0, none⟩) 2 2] w fun e w' => ∃ v, e = .returned v ∧ w'.ownsRow w.heap.size 9 1 v (n + n') ((ss ++ ss').map .string) ∧ Below w.heap.size w w' := by
  obtain ⟨i0, hi, hz0, hz1, hz2⟩ := info_parts infoStr
  have s1 := h1.more hB
  have s2 := h2.more hB
  obtain ⟨b, off, rfl, hb, _⟩ := h1.at_ (k := 0) (by omega)
  have S1 := Lib.hid s1
  have S2 := Lib.hid s2
  clear s1 s2 h1 h2
  go_enter Tryd.func43, Tryd.ntmps43
  go_wp2
  refine wp_loop_rounds 3 ?_
  rw [rounds_succ]
  go_wp2
  rw [rounds_succ]
  go_wp2
  rw [rounds_succ]
  go_wp2_with fail
  refine (grow_nil (n + n') _ (by omega)).mono ?_
  rintro e w1 ⟨v1, rfl, hv1, hb1⟩
  have hg0' := hb1.cell (p := ⟨g, 0, none⟩) hg
  have hg1' := hb1.cell (p := ⟨g, 1, none⟩) hg
  rw [hg0] at hg0'
  rw [hg1] at hg1'
  go_wp2
  refine wp_loop_rounds 3 ?_
  rw [rounds_succ]
  go_wp2_with (at_builtin; refine append_strs rfl _ _ rfl w.heap.size w.heap.size _ _ _ rfl hv1 _ n c ss rfl (S1.out.below hb1) ?q4 ?q5 hb1.size ?_)
  case q4 => unfold maxLen; omega
  case q5 => omega
  intro v2 w2 hv2 hgrow2
  have hb2 : Below w.heap.size w w2 := hb1.grown hgrow2 hb1.size fun k hk => (hv1.lt k hk).1
  have hg1'' := hb2.cell (p := ⟨g, 1, none⟩) hg
  rw [hg1] at hg1''
  go_wp2
  rw [rounds_succ]
  go_wp2_with (at_builtin; refine append_strs rfl _ _ rfl w.heap.size w.heap.size _ _ _ rfl hv2 _ n' c' ss' rfl (S2.out.below hb2) ?q4 ?q5 hb2.size ?_)
  case q4 => unfold maxLen; omega
  case q5 => omega
  intro v3 w3 hv3 hgrow3
  have hb3 : Below w.heap.size w w3 := hb2.grown hgrow3 hb2.size fun k hk => (hv2.lt k hk).1
  go_wp2
  rw [rounds_succ]
  go_wp2
  go_ret
  exact ⟨_, rfl, by simpa using hv3, hb3⟩
end Go.Proofs.YtkjiaklpffnhlaaDoor
