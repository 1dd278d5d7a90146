/-
  Texts of this proof, put together: MmL.
-/
import Derived.Test.YtjikghndoklajaaGreatDoorZ36
import Derived.Deep.AppendLies
import Derived.Handy
namespace Go.Proofs.YtjikghndoklajaaGreatDoor
open Go.RowKit

def LvI (T : Nat) (acc : List TreeM) (W : World) : Prop := ∃ (v : Value) (kids : List KidM), kids.map (·.1) = acc ∧ Boxed W T 27 v ∧ PartsOwn W (T + 1) v kids ∧ KidsP W (fun g => T < g ∧ v.ownBlock ≠ some g) kids
def LvJ (T B : Nat) (_ : List TreeM) (W : World) (k : Nat) : Prop := k = T ∨ (B ≤ k ∧ ∃ v, W.cell? ⟨T, 0, none⟩ = some v ∧ v.ownBlock = some k)
def bareM (p : TreeM) : TreeM := .mk p.fields p.typ p.body []
def leafStep (acc : List TreeM) (p : TreeM) : List TreeM := if p.parts = [] then acc ++ [bareM p] else acc
theorem enter_lv : ∀ args w, (callFunc 12 args).run Tryz.prog w = .ok (.enter 12 args) w := enters_of Tryz.func12 (by kernel_rfl) rfl
theorem lvi_below {T B : Nat} {acc : List TreeM} {W W' : World} (h : LvI T acc W) (_hB : B ≤ T) (hb : Below W.heap.size W W') : LvI T acc W' ∧ Moves (LvJ T B) acc W acc W' ∧ ∀ k, W.heap.size ≤ k → ¬ LvJ T B acc W' k := by
  obtain ⟨v, kids, h1, h2, h3, h4⟩ := h
  have hc : W'.cell? ⟨T, 0, none⟩ = W.cell? ⟨T, 0, none⟩ := hb.cell (p := ⟨T, 0, none⟩) h2.lt
  refine ⟨⟨v, kids, h1, boxed_below h2 hb, row_take h3 (T := T) (by omega) (.of hb), h4.to (stay_all hb)⟩, ⟨hb.os, hb.tape, hb.output, hb.size, fun k hk hj => ⟨fun hj2 => hj ?_, hb.block k hk⟩⟩, fun k hk hj => ?_⟩
  · rcases hj2 with e | ⟨hBk, u, hu, hub⟩
    · exact .inl e
    · exact .inr ⟨hBk, u, hc ▸ hu, hub⟩
  · rcases hj with e | ⟨_, u, hu, hub⟩
    · have := h2.lt
      omega
    · rw [hc, h2.cell] at hu
      have e := Option.some.inj hu
      rw [← e] at hub
      have := (h3.lt k hub).2
      omega
theorem row_last {w : World} {B0 e gg n cap : Nat} {A : List Value} {a b c d f g : Value} (h : w.ownsRow B0 e 6 (.slice (some ⟨gg, 0, none⟩) (n + 1) cap) (n + 1) (A ++ [a, b, c, d, f, g])) (hA : A.length = n * 6) :
    w.cell? ⟨gg, n * 6, none⟩ = some a ∧ w.cell? ⟨gg, n * 6 + 1, none⟩ = some b ∧ w.cell? ⟨gg, n * 6 + 2, none⟩ = some c ∧ w.cell? ⟨gg, n * 6 + 3, none⟩ = some d ∧ w.cell? ⟨gg, n * 6 + 4, none⟩ = some f ∧ w.cell? ⟨gg, n * 6 + 5, none⟩ = some g ∧ ∀ j, w.frozen? ⟨gg, j, none⟩ = false := by
  have hc : ∀ r, r < 6 → w.cell? ⟨gg, n * 6 + r, none⟩ = ([a, b, c, d, f, g] : List Value)[r]? := fun r hr => by
    rw [h.cellAt (n * 6 + r) (by omega), List.getElem?_append_right (by omega), hA, Nat.add_sub_cancel_left]
  exact ⟨hc 0 (by omega), hc 1 (by omega), hc 2 (by omega), hc 3 (by omega), hc 4 (by omega), hc 5 (by omega), fun j => h.frozenAt j⟩
def putL (w : World) (gg o : Nat) (a b c d e f : Value) : World := (((((w.setCell ⟨gg, o, none⟩ a).setCell ⟨gg, o + 1, none⟩ b).setCell ⟨gg, o + 2, none⟩ c).setCell ⟨gg, o + 3, none⟩ d).setCell ⟨gg, o + 4, none⟩ e).setCell ⟨gg, o + 5, none⟩ f
theorem putL_block {w : World} {gg o k : Nat} (h : k ≠ gg) (a b c d e f : Value) : (putL w gg o a b c d e f).heap[k]? = w.heap[k]? := by
  unfold putL
  exact (Below.heap_setCell _ ⟨gg, o + 5, none⟩ f k h).trans ((Below.heap_setCell _ ⟨gg, o + 4, none⟩ e k h).trans ((Below.heap_setCell _ ⟨gg, o + 3, none⟩ d k h).trans ((Below.heap_setCell _ ⟨gg, o + 2, none⟩ c k h).trans ((Below.heap_setCell _ ⟨gg, o + 1, none⟩ b k h).trans (Below.heap_setCell _ ⟨gg, o, none⟩ a k h)))))
theorem frozen_block {w w' : World} {k j : Nat} (h : w'.heap[k]? = w.heap[k]?) : w'.frozen? ⟨k, j, none⟩ = w.frozen? ⟨k, j, none⟩ := by
  unfold World.frozen?
  simp only [h]
theorem putL_row {w : World} {B0 e gg n cap : Nat} {A : List Value} {z0 z1 z2 z3 z4 z5 : Value} (a b c d f g : Value) (h : w.ownsRow B0 e 6 (.slice (some ⟨gg, 0, none⟩) (n + 1) cap) (n + 1) (A ++ [z0, z1, z2, z3, z4, z5])) (hA : A.length = n * 6) :
    (putL w gg (n * 6) a b c d f g).ownsRow B0 e 6 (.slice (some ⟨gg, 0, none⟩) (n + 1) cap) (n + 1) (A ++ [a, b, c, d, f, g]) := by
  have h1 := (h.stored (n * 6) a).1
  have h2 := (h1.stored (n * 6 + 1) b).1
  have h3 := (h2.stored (n * 6 + 2) c).1
  have h4 := (h3.stored (n * 6 + 3) d).1
  have h5 := (h4.stored (n * 6 + 4) f).1
  have h6 := (h5.stored (n * 6 + 5) g).1
  unfold putL
  have e : ((((((A ++ [z0, z1, z2, z3, z4, z5]).set (n * 6) a).set (n * 6 + 1) b).set (n * 6 + 2) c).set (n * 6 + 3) d).set (n * 6 + 4) f).set (n * 6 + 5) g = A ++ [a, b, c, d, f, g] := by
    rw [← hA]
    simp
  rw [e] at h6
  exact h6
theorem lv_next {T B : Nat} (hBT : B ≤ T) {acc : List TreeM} {q : TreeM} {w w1 w9 W w11 W' : World} {v : Value} {kids : List KidM} {gg n cap1 : Nat} {s1 s2 s3 : Value}
    (q1 : kids.map (·.1) = acc) (q2 : Boxed w T 27 v) (q3 : PartsOwn w (T + 1) v kids) (q4 : KidsP w (fun g => T < g ∧ v.ownBlock ≠ some g) kids) (hn : kids.length = n) (_hBw : B ≤ w.heap.size)
    (b1 : Below w.heap.size w w1) (z1 : w.heap.size < w1.heap.size) (ht : TreeP w9 (fun g => w1.heap.size ≤ g) q s1 s2 s3) (b2 : Below w1.heap.size w1 W) (b9 : Below w9.heap.size w9 W) (hg : W.grownBy w11 v.ownBlock) (_hTg : T < gg) (hat : v.ownBlock = some gg ∨ W.heap.size ≤ gg)
    (e1 : W'.ownsRow (T + 1) 29 6 (.slice (some ⟨gg, 0, none⟩) (n + 1) cap1) (n + 1) (kidsCells kids ++ kidCells (q, s1, s2, s3))) (e2 : Boxed W' T 27 (.slice (some ⟨gg, 0, none⟩) (n + 1) cap1))
    (e3 : ∀ k, k ≠ gg → k ≠ T → W'.heap[k]? = w11.heap[k]?) (e4 : W'.os = w11.os ∧ W'.tape = w11.tape ∧ W'.output = w11.output ∧ W'.heap.size = w11.heap.size) :
    LvI T (acc ++ [q]) W' ∧ Moves (LvJ T B) acc w (acc ++ [q]) W' := by
  have hbw : Below w.heap.size w W := b1.trans (b2.mono b1.size)
  have hzW := b2.size
  have hz9 := b9.size
  have hz11 := hg.size
  have hlt := q3.lt
  have hkeep : ∀ k, k < w.heap.size → k ≠ T → v.ownBlock ≠ some k → W'.heap[k]? = w.heap[k]? ∧ k ≠ gg := fun k h1 h2 h3 => by
    have hne : k ≠ gg := fun e => by
      rcases hat with h | h
      · exact h3 (e ▸ h)
      · omega
    exact ⟨(e3 k hne h2).trans ((hg.block k (by omega) (fun e => h3 e.symm)).trans (hbw.block k h1)), hne⟩
  refine ⟨⟨_, kids ++ [(q, s1, s2, s3)], by rw [List.map_append, q1]; rfl, e2, ?_, ?_⟩, ?_⟩
  · unfold PartsOwn
    rw [List.length_append, hn, show kidsCells (kids ++ [(q, s1, s2, s3)]) = kidsCells kids ++ kidCells (q, s1, s2, s3) by simp [kidsCells]]
    exact e1
  · intro x hx
    rcases List.mem_append.1 hx with hx | hx
    · exact (q4 x hx).to fun g ⟨h1, h2⟩ hl => by
        obtain ⟨k1, k2⟩ := hkeep g hl (by omega) h2
        exact ⟨⟨h1, fun e => k2 (by have := Option.some.inj e; exact this.symm)⟩, fun j => cell_block k1⟩
    · obtain rfl := List.mem_singleton.1 hx
      refine ht.to fun g hgl hl => ?_
      have hgl : w1.heap.size ≤ g := hgl
      have h3 : v.ownBlock ≠ some g := fun e => by have := (hlt g e).2; omega
      have hne : g ≠ gg := fun e => by
        rcases hat with h | h
        · exact h3 (e ▸ h)
        · omega
      have hTw := q2.lt
      exact ⟨⟨by omega, fun e => hne (by have := Option.some.inj e; exact this.symm)⟩, fun j => cell_block ((e3 g hne (by omega)).trans ((hg.block g (by omega) (fun e => h3 e.symm)).trans (b9.block g hl)))⟩
  · refine ⟨e4.1.trans (hg.os.trans hbw.os), e4.2.1.trans (hg.tape.trans hbw.tape), e4.2.2.1.trans (hg.output.trans hbw.output), by rw [e4.2.2.2]; have := hbw.size; omega, fun k hk hj => ?_⟩
    have h2 : k ≠ T := fun e => hj (.inl e)
    have h3 : v.ownBlock ≠ some k := fun e => hj (.inr ⟨by have := (hlt k e).1; omega, v, q2.cell, e⟩)
    obtain ⟨k1, k2⟩ := hkeep k hk h2 h3
    refine ⟨fun hj2 => ?_, k1⟩
    rcases hj2 with e | ⟨_, u, hu, hub⟩
    · exact h2 e
    · rw [e2.cell] at hu
      have e := Option.some.inj hu
      rw [← e] at hub
      exact k2 (Option.some.inj hub).symm
theorem set_same (w : World) (b o : Nat) (v : Value) : (w.setCell ⟨b, o, none⟩ v).os = w.os ∧ (w.setCell ⟨b, o, none⟩ v).tape = w.tape ∧ (w.setCell ⟨b, o, none⟩ v).output = w.output ∧ (w.setCell ⟨b, o, none⟩ v).heap.size = w.heap.size := ⟨rfl, rfl, rfl, by simp [World.setCell]⟩
theorem same_trans {w w' w'' : World} (h : w''.os = w'.os ∧ w''.tape = w'.tape ∧ w''.output = w'.output ∧ w''.heap.size = w'.heap.size) (k : w'.os = w.os ∧ w'.tape = w.tape ∧ w'.output = w.output ∧ w'.heap.size = w.heap.size) : w''.os = w.os ∧ w''.tape = w.tape ∧ w''.output = w.output ∧ w''.heap.size = w.heap.size :=
  ⟨h.1.trans k.1, h.2.1.trans k.2.1, h.2.2.1.trans k.2.2.1, h.2.2.2.trans k.2.2.2⟩
theorem putL_same (w : World) (gg o : Nat) (a b c d e f : Value) : (putL w gg o a b c d e f).os = w.os ∧ (putL w gg o a b c d e f).tape = w.tape ∧ (putL w gg o a b c d e f).output = w.output ∧ (putL w gg o a b c d e f).heap.size = w.heap.size := by
  unfold putL
  exact same_trans (set_same _ _ _ _) (same_trans (set_same _ _ _ _) (same_trans (set_same _ _ _ _) (same_trans (set_same _ _ _ _) (same_trans (set_same _ _ _ _) (set_same _ _ _ _)))))
set_option maxRecDepth 100000 in
set_option maxHeartbeats 16000000 in
theorem mleaves1_any (T B : Nat) (hBT : B ≤ T) (acc : List TreeM) (p : TreeM) (fv pv rv : Value) (w : World) (hI : LvI T acc w) (hBw : B ≤ w.heap.size) (ht : TreeAt w B p fv pv rv) (hs : SmallP 100000000 p) (hlen : p.fields.length ≤ 1000000 ∧ p.typ.2.2.length ≤ 1000000) (hacc : acc.length < 1000000) :
    Calls Tryz.prog 12 #[partV p fv pv rv, .pointer (some ⟨T, 0, none⟩)] w fun e w' => e = .returned (.tuple #[]) ∧ LvI T (leafStep acc p) w' ∧ Moves (LvJ T B) acc w (leafStep acc p) w' := by
  obtain ⟨⟨a1, n1, c1, rfl⟩, ⟨a2, n2, c2, rfl⟩, _⟩ := ht.slices
  obtain ⟨a3, c3, rfl, hc3, hm3⟩ := ht.len
  obtain ⟨n3, hn3⟩ : ∃ n3, p.parts.length = n3 := ⟨_, rfl⟩
  obtain ⟨X, hX⟩ : ∃ X, textQ p.typ.1 = X := ⟨_, rfl⟩
  obtain ⟨Y, hY⟩ : ∃ X, textQ p.typ.2.1 = X := ⟨_, rfl⟩
  obtain ⟨D, hD⟩ : ∃ X, textQ p.body = X := ⟨_, rfl⟩
  unfold maxLen at hm3
  have hcopy : Hid (∀ W, Below w.heap.size w W → Calls Tryz.prog 13 #[.agg #[.slice a1 n1 c1, .string X, .string Y, .slice a2 n2 c2, .string D, .slice a3 n3 c3]] W fun e w' => ∃ b1 m1 d1 b2 m2 d2, e = .returned (.agg #[.slice b1 m1 d1, .string X, .string Y, .slice b2 m2 d2, .string D, .slice none 0 0]) ∧ Hid (TreeP w' (fun g => W.heap.size ≤ g) (bareM p) (.slice b1 m1 d1) (.slice b2 m2 d2) (.slice none 0 0)) ∧ Below W.heap.size W w') := Lib.hid fun W hW => by
    have := mcopyleaf_any B p (.slice a1 n1 c1) (.slice a2 n2 c2) (.slice a3 p.parts.length c3) W (ht.below hW hBw) (Nat.le_trans hBw hW.size) hs hlen
    unfold partV at this
    rw [hX, hY, hD, hn3] at this
    refine this.mono fun e w' ⟨fv, pv, h1, h2, h3, h4⟩ => ?_
    obtain ⟨b1, d1, rfl, _⟩ := h2.slice
    obtain ⟨b2, d2, rfl, _⟩ := h3.slice
    exact ⟨_, _, _, _, _, _, by rw [h1, ← hX, ← hY, ← hD]; rfl, Lib.hid ⟨h2, h3, PartsP.nil _ _⟩, h4⟩
  unfold partV
  rw [hX, hY, hD, hn3]
  rw [hn3] at hc3
  obtain ⟨w1, hw1⟩ : ∃ w1, w.alloc (.cells #[.slice a1 n1 c1, .string X, .string Y, .slice a2 n2 c2, .string D, .slice a3 n3 c3] 29) = w1 := ⟨_, rfl⟩
  have b1 : Below w.heap.size w w1 := by rw [← hw1]; exact (Below.refl _ _).alloc (Nat.le_refl _) _
  have z1 : w.heap.size < w1.heap.size := by rw [← hw1]; simp
  have p1 : PrtAt w1 w.heap.size (.slice a1 n1 c1) (.string X) (.string Y) (.slice a2 n2 c2) (.string D) (.slice a3 n3 c3) := by rw [← hw1]; exact prt_new w _ _ _ _ _ _
  obtain ⟨y0, y1, y2, y3, y4, y5, _⟩ := p1.cells
  by_cases h0 : n3 = 0
  · have hp : p.parts = [] := List.eq_nil_of_length_eq_zero (hn3.trans h0)
    subst h0
    obtain ⟨v, kids, q1, q2, q3, q4⟩ := hI
    obtain ⟨ao, cap, rfl⟩ := row_slice q3
    obtain ⟨n, hn⟩ : ∃ n, kids.length = n := ⟨_, rfl⟩
    rw [hn] at q2 q3 q4
    have hkl : n < 1000000 := by rw [← hn]; rw [← q1, List.length_map] at hacc; exact hacc
    obtain ⟨i0, hi0, hz0, hz1, hz2⟩ := info_parts infoPart
    have K1 : Hid (∀ W, Below w1.heap.size w1 W → (W.cell? ⟨T, 0, none⟩ = some (.slice ao n cap) ∧ (∀ o, (W.alloc o).cell? ⟨T, 0, none⟩ = some (.slice ao n cap))) ∧ PrtAt W w.heap.size (.slice a1 n1 c1) (.string X) (.string Y) (.slice a2 n2 c2) (.string D) (.slice a3 0 c3) ∧ Below w.heap.size w W) := Lib.hid fun W hW => by
      have hbw : Below w.heap.size w W := b1.trans (hW.mono b1.size)
      have c := (boxed_below q2 hbw).cell
      exact ⟨⟨c, fun o => Lib.cell?_alloc_some o c⟩, p1.below hW, hbw⟩
    have HR : Hid (∀ W, Below w1.heap.size w1 W → W.ownsRow (T + 1) 29 6 (.slice ao n cap) n (kidsCells kids)) := Lib.hid fun W hW => by
      have h5 := row_take q3 (T := T) (by omega) (.of (K1.out W hW).2.2)
      rw [hn] at h5
      exact h5
    obtain ⟨⟨k0, k1⟩, _⟩ := K1.out w1 (Below.refl _ _)
    have HC : Hid (∀ W, Below w1.heap.size w1 W → Calls Tryz.prog 13 #[.agg #[.slice a1 n1 c1, .string X, .string Y, .slice a2 n2 c2, .string D, .slice a3 0 c3]] W fun e w' => ∃ b1 m1 d1 b2 m2 d2, e = .returned (.agg #[.slice b1 m1 d1, .string X, .string Y, .slice b2 m2 d2, .string D, .slice none 0 0]) ∧ Hid (TreeP w' (fun g => w1.heap.size ≤ g) (bareM p) (.slice b1 m1 d1) (.slice b2 m2 d2) (.slice none 0 0)) ∧ Below W.heap.size W w') := Lib.hid fun W hW => (hcopy.out W (b1.trans (hW.mono b1.size))).mono fun e w' ⟨b1, m1, d1, b2, m2, d2, h1, h2, h3⟩ => ⟨b1, m1, d1, b2, m2, d2, h1, Lib.hid (h2.out.to (stay_self fun g hg _ => Nat.le_trans hW.size hg)), h3⟩
    have HN := Lib.hid (show (kidsCells kids).length = n * 6 by rw [kids_len, hn])
    have HT : Hid (∀ W, Below w1.heap.size w1 W → ∀ w11, W.grownBy w11 (Value.slice ao n cap).ownBlock → Boxed w11 T 27 (.slice ao n cap)) := Lib.hid fun W hW w11 hg => by
      have hb := boxed_below q2 (K1.out W hW).2.2
      exact (hg.block T hb.lt (fun e => by have := ((HR.out W hW).lt T e.symm).1; omega)).trans hb
    have HTg : Hid (∀ gg H, ((Value.slice ao n cap).ownBlock = some gg ∨ gg = H) → T < H → T < gg) := Lib.hid fun gg H h hH => by
      rcases h with h | h
      · have := (q3.lt gg h).1
        omega
      · omega
    have HX : Hid (∀ (w11 : World) gg cap1 b1 m1 d1 b2 m2 d2, T < gg → w11.ownsRow (T + 1) 29 6 (.slice (some ⟨gg, 0, none⟩) (n + 1) cap1) (n + 1) (kidsCells kids ++ [.slice none 0 0, .string ⟨#[]⟩, .string ⟨#[]⟩, .slice none 0 0, .string ⟨#[]⟩, .slice none 0 0]) → Boxed w11 T 27 (.slice ao n cap) → ((((((w11.setCell ⟨gg, n * 6, none⟩ (.slice b1 m1 d1)).setCell ⟨gg, n * 6 + 1, none⟩ (.string X)).setCell ⟨gg, n * 6 + 2, none⟩ (.string Y)).setCell ⟨gg, n * 6 + 3, none⟩ (.slice b2 m2 d2)).setCell ⟨gg, n * 6 + 4, none⟩ (.string D)).setCell ⟨gg, n * 6 + 5, none⟩ (.slice none 0 0)).cell? ⟨T, 0, none⟩ = some (.slice ao n cap) ∧ ((((((w11.setCell ⟨gg, n * 6, none⟩ (.slice b1 m1 d1)).setCell ⟨gg, n * 6 + 1, none⟩ (.string X)).setCell ⟨gg, n * 6 + 2, none⟩ (.string Y)).setCell ⟨gg, n * 6 + 3, none⟩ (.slice b2 m2 d2)).setCell ⟨gg, n * 6 + 4, none⟩ (.string D)).setCell ⟨gg, n * 6 + 5, none⟩ (.slice none 0 0)).frozen? ⟨T, 0, none⟩ = false ∧ (w11.setCell ⟨T, 0, none⟩ (.slice (some ⟨gg, 0, none⟩) (n + 1) cap1)).cell? ⟨gg, n * 6, none⟩ = some (.slice none 0 0) ∧ (w11.setCell ⟨T, 0, none⟩ (.slice (some ⟨gg, 0, none⟩) (n + 1) cap1)).cell? ⟨gg, n * 6 + 1, none⟩ = some (.string ⟨#[]⟩) ∧ (w11.setCell ⟨T, 0, none⟩ (.slice (some ⟨gg, 0, none⟩) (n + 1) cap1)).cell? ⟨gg, n * 6 + 2, none⟩ = some (.string ⟨#[]⟩) ∧ (w11.setCell ⟨T, 0, none⟩ (.slice (some ⟨gg, 0, none⟩) (n + 1) cap1)).cell? ⟨gg, n * 6 + 3, none⟩ = some (.slice none 0 0) ∧ (w11.setCell ⟨T, 0, none⟩ (.slice (some ⟨gg, 0, none⟩) (n + 1) cap1)).cell? ⟨gg, n * 6 + 4, none⟩ = some (.string ⟨#[]⟩) ∧ (w11.setCell ⟨T, 0, none⟩ (.slice (some ⟨gg, 0, none⟩) (n + 1) cap1)).cell? ⟨gg, n * 6 + 5, none⟩ = some (.slice none 0 0) ∧ (w11.setCell ⟨T, 0, none⟩ (.slice (some ⟨gg, 0, none⟩) (n + 1) cap1)).frozen? ⟨gg, n * 6, none⟩ = false ∧ (w11.setCell ⟨T, 0, none⟩ (.slice (some ⟨gg, 0, none⟩) (n + 1) cap1)).frozen? ⟨gg, n * 6 + 1, none⟩ = false ∧ (w11.setCell ⟨T, 0, none⟩ (.slice (some ⟨gg, 0, none⟩) (n + 1) cap1)).frozen? ⟨gg, n * 6 + 2, none⟩ = false ∧ (w11.setCell ⟨T, 0, none⟩ (.slice (some ⟨gg, 0, none⟩) (n + 1) cap1)).frozen? ⟨gg, n * 6 + 3, none⟩ = false ∧ (w11.setCell ⟨T, 0, none⟩ (.slice (some ⟨gg, 0, none⟩) (n + 1) cap1)).frozen? ⟨gg, n * 6 + 4, none⟩ = false ∧ (w11.setCell ⟨T, 0, none⟩ (.slice (some ⟨gg, 0, none⟩) (n + 1) cap1)).frozen? ⟨gg, n * 6 + 5, none⟩ = false) := Lib.hid fun w11 gg cap1 b1 m1 d1 b2 m2 d2 hTg hown1 tb => by
      obtain ⟨g0, g1, g2, g3, g4, g5, gf⟩ := row_last hown1 HN.out
      have hgb : (w11.setCell ⟨T, 0, none⟩ (.slice (some ⟨gg, 0, none⟩) (n + 1) cap1)).heap[gg]? = w11.heap[gg]? := Below.heap_setCell w11 ⟨T, 0, none⟩ _ gg (Nat.ne_of_gt hTg)
      have hput := putL_block (w := w11) (gg := gg) (o := n * 6) (k := T) (Nat.ne_of_lt hTg) (.slice b1 m1 d1) (.string X) (.string Y) (.slice b2 m2 d2) (.string D) (.slice none 0 0)
      unfold putL at hput
      exact ⟨(cell_block hput).trans tb.cell, (frozen_block hput).trans (Lib.frozen_of_heap tb 0), (cell_block hgb).trans g0, (cell_block hgb).trans g1, (cell_block hgb).trans g2, (cell_block hgb).trans g3, (cell_block hgb).trans g4, (cell_block hgb).trans g5, (frozen_block hgb).trans (gf _), (frozen_block hgb).trans (gf _), (frozen_block hgb).trans (gf _), (frozen_block hgb).trans (gf _), (frozen_block hgb).trans (gf _), (frozen_block hgb).trans (gf _)⟩
    have HFin : Hid (∀ (w9 w11 : World) gg cap1 b1 m1 d1 b2 m2 d2, Hid (TreeP w9 (fun g => w1.heap.size ≤ g) (bareM p) (.slice b1 m1 d1) (.slice b2 m2 d2) (.slice none 0 0)) → Hid (∃ W, Below w1.heap.size w1 W ∧ Below w9.heap.size w9 W ∧ W.grownBy w11 (Value.slice ao n cap).ownBlock ∧ ((Value.slice ao n cap).ownBlock = some gg ∨ W.heap.size ≤ gg)) → T < gg → Boxed w11 T 27 (.slice ao n cap) →
        w11.ownsRow (T + 1) 29 6 (.slice (some ⟨gg, 0, none⟩) (n + 1) cap1) (n + 1) (kidsCells kids ++ [.slice none 0 0, .string ⟨#[]⟩, .string ⟨#[]⟩, .slice none 0 0, .string ⟨#[]⟩, .slice none 0 0]) → (LvI T (acc ++ [bareM p]) ((putL w11 gg (n * 6) (.slice b1 m1 d1) (.string X) (.string Y) (.slice b2 m2 d2) (.string D) (.slice none 0 0)).setCell ⟨T, 0, none⟩ (.slice (some ⟨gg, 0, none⟩) (n + 1) cap1)) ∧ Moves (LvJ T B) acc w (acc ++ [bareM p]) ((putL w11 gg (n * 6) (.slice b1 m1 d1) (.string X) (.string Y) (.slice b2 m2 d2) (.string D) (.slice none 0 0)).setCell ⟨T, 0, none⟩ (.slice (some ⟨gg, 0, none⟩) (n + 1) cap1))) ∧ (LvI T (acc ++ [bareM p]) (putL (w11.setCell ⟨T, 0, none⟩ (.slice (some ⟨gg, 0, none⟩) (n + 1) cap1)) gg (n * 6) (.slice b1 m1 d1) (.string X) (.string Y) (.slice b2 m2 d2) (.string D) (.slice none 0 0)) ∧ Moves (LvJ T B) acc w (acc ++ [bareM p]) (putL (w11.setCell ⟨T, 0, none⟩ (.slice (some ⟨gg, 0, none⟩) (n + 1) cap1)) gg (n * 6) (.slice b1 m1 d1) (.string X) (.string Y) (.slice b2 m2 d2) (.string D) (.slice none 0 0)))) := Lib.hid fun w9 w11 gg cap1 b1' m1' d1' b2' m2' d2' hx hK hTg tb hown1 => by
      obtain ⟨W, k1, k2, k3, k4⟩ := hK.out
      have hkc : kidCells (bareM p, Value.slice b1' m1' d1', Value.slice b2' m2' d2', Value.slice none 0 0) = [.slice b1' m1' d1', .string X, .string Y, .slice b2' m2' d2', .string D, .slice none 0 0] := by
        rw [← hX, ← hY, ← hD]
        rfl
      have hsz : ∀ (w : World) a v, (w.setCell a v).heap.size = w.heap.size := fun w a v => by simp [World.setCell]
      constructor
      · refine lv_next hBT q1 q2 q3 q4 hn hBw b1 z1 hx.out k1 k2 k3 hTg k4 (cap1 := cap1) ?_ ?_ ?_ ?_
        · rw [hkc]
          exact ownsRow_setCell_below (putL_row _ _ _ _ _ _ hown1 HN.out) (a := ⟨T, 0, none⟩) (by show T < T + 1; omega) _
        · have e : Boxed (putL w11 gg (n * 6) (.slice b1' m1' d1') (.string X) (.string Y) (.slice b2' m2' d2') (.string D) (.slice none 0 0)) T 27 (.slice ao n cap) := (putL_block (Nat.ne_of_lt hTg) _ _ _ _ _ _).trans tb
          exact e.set _
        · exact fun k h1 h2 => (Below.heap_setCell _ ⟨T, 0, none⟩ _ k h2).trans (putL_block h1 _ _ _ _ _ _)
        · exact same_trans (set_same _ _ _ _) (putL_same _ _ _ _ _ _ _ _ _)
      · refine lv_next hBT q1 q2 q3 q4 hn hBw b1 z1 hx.out k1 k2 k3 hTg k4 (cap1 := cap1) ?_ ?_ ?_ ?_
        · rw [hkc]
          exact putL_row _ _ _ _ _ _ (ownsRow_setCell_below hown1 (a := ⟨T, 0, none⟩) (by show T < T + 1; omega) _) HN.out
        · exact (putL_block (Nat.ne_of_lt hTg) _ _ _ _ _ _).trans (tb.set _)
        · exact fun k h1 h2 => (putL_block h1 _ _ _ _ _ _).trans (Below.heap_setCell _ ⟨T, 0, none⟩ _ k h2)
        · exact same_trans (putL_same _ _ _ _ _ _ _ _ _) (set_same _ _ _ _)
    have h63 : n + 1 ≤ maxLen := by unfold maxLen; omega
    have hbb : (n + 1) * 120 ≤ 140737488355328 := by omega
    have hTw := q2.lt
    have hnn : (n : Int) < (n : Int) + 1 := by omega
    have HQ := Lib.hid (And.intro (And.intro q1 q2) (And.intro q3 (And.intro q4 (And.intro hn hp))))
    clear hcopy hX hY hD ht hs hlen hacc q1 q2 q3 q4 hn3 hp hn p1 b1
    go_enter Tryz.func12, Tryz.ntmps12
    go_wp2_with fail
    go_region_law (first
      | (go_simp; go_at_call 13; (first | (refine (HC.out _ (below_drewN (Below.refl _ w1) 1)).mono ?_; rintro e w9 ⟨b1, m1, d1, b2, m2, d2, rfl, hx, hb9⟩; have hc9 : Below w1.heap.size w1 w9 := (below_drewN (Below.refl _ w1) 1).trans hb9) | (refine (HC.out _ (by go_grown)).mono ?_; rintro e w9 ⟨b1, m1, d1, b2, m2, d2, rfl, hx, hb9⟩; have hc9 : Below w1.heap.size w1 w9 := Below.trans (by go_grown) (hb9.mono (by simp)); have hzb : w9.heap[w1.heap.size]? = some (.cells #[.slice none 0 0, .string ⟨#[]⟩, .string ⟨#[]⟩, .slice none 0 0, .string ⟨#[]⟩, .slice none 0 0] 29 (0, 0)) := (hb9.block _ (by simp)).trans (heap_alloc_new w1 _))); obtain ⟨⟨m0, m0a⟩, _⟩ := K1.out w9 hc9; clear hb9)
      | (refine step_append_lies _ (by rfl) _ _ _ (by rfl) (T + 1) 29 i0 _ 6 120 Tryz.underlying27 hi0 hz0 hz1 hz2 rfl (by omega) (.slice ao n cap) n (kidsCells kids) (by rfl) (HR.out _ (hc9.alloc hc9.size _)) ⟨w9.heap.size, 0, none⟩ 1 1 [.slice none 0 0, .string ⟨#[]⟩, .string ⟨#[]⟩, .slice none 0 0, .string ⟨#[]⟩, .slice none 0 0] (by rfl) (by rfl) (World.news_of_block (cs := #[.slice none 0 0, .string ⟨#[]⟩, .string ⟨#[]⟩, .slice none 0 0, .string ⟨#[]⟩, .slice none 0 0]) (t := 29) (fr := (0, 0)) (heap_alloc_new w9 _)) (by simp [Value.oneCell']) (by omega) h63 hbb (by have := hc9.size; simp; omega) (w9.heap.size + 1) (by simp) ?_; intro gg cap1 w11 hown1 hgrow hat hlt1; obtain ⟨g0, g1, g2, g3, g4, g5, gf⟩ := row_last hown1 HN.out; have f0 := gf (n * 6); have f1 := gf (n * 6 + 1); have f2 := gf (n * 6 + 2); have f3 := gf (n * 6 + 3); have f4 := gf (n * 6 + 4); have f5 := gf (n * 6 + 5); clear gf; have tb := HT.out _ (hc9.alloc hc9.size _) w11 hgrow; have t0 := tb.cell; have t1 := Lib.frozen_of_heap tb 0; have hTg := HTg.out gg _ hat (by have := hc9.size; omega); obtain ⟨t2, t3, p0, p1, p2, p3, p4, p5, r0, r1, r2, r3, r4, r5⟩ := HX.out w11 gg cap1 b1 m1 d1 b2 m2 d2 hTg hown1 tb;  have K11 : Hid (∃ W, Below w1.heap.size w1 W ∧ Below w9.heap.size w9 W ∧ W.grownBy w11 (Value.slice ao n cap).ownBlock ∧ ((Value.slice ao n cap).ownBlock = some gg ∨ W.heap.size ≤ gg)) := Lib.hid ⟨_, hc9.alloc hc9.size _, (Below.refl _ _).alloc (Nat.le_refl _) _, hgrow, hat.imp id (fun e => by simp; omega)⟩; have TB := Lib.hid tb; clear tb)
      | (refine step_append_lies _ (by rfl) _ _ _ (by rfl) (T + 1) 29 i0 _ 6 120 Tryz.underlying27 hi0 hz0 hz1 hz2 rfl (by omega) (.slice ao n cap) n (kidsCells kids) (by rfl) (HR.out _ hc9) ⟨w1.heap.size, 0, none⟩ 1 1 [.slice none 0 0, .string ⟨#[]⟩, .string ⟨#[]⟩, .slice none 0 0, .string ⟨#[]⟩, .slice none 0 0] (by rfl) (by rfl) (World.news_of_block (cs := #[.slice none 0 0, .string ⟨#[]⟩, .string ⟨#[]⟩, .slice none 0 0, .string ⟨#[]⟩, .slice none 0 0]) (t := 29) (fr := (0, 0)) hzb) (by simp [Value.oneCell']) (by omega) h63 hbb (by have := hc9.size; omega) (w9.heap.size) (rfl) ?_; intro gg cap1 w11 hown1 hgrow hat hlt1; obtain ⟨g0, g1, g2, g3, g4, g5, gf⟩ := row_last hown1 HN.out; have f0 := gf (n * 6); have f1 := gf (n * 6 + 1); have f2 := gf (n * 6 + 2); have f3 := gf (n * 6 + 3); have f4 := gf (n * 6 + 4); have f5 := gf (n * 6 + 5); clear gf; have tb := HT.out _ hc9 w11 hgrow; have t0 := tb.cell; have t1 := Lib.frozen_of_heap tb 0; have hTg := HTg.out gg _ hat (by have := hc9.size; omega); obtain ⟨t2, t3, p0, p1, p2, p3, p4, p5, r0, r1, r2, r3, r4, r5⟩ := HX.out w11 gg cap1 b1 m1 d1 b2 m2 d2 hTg hown1 tb;  have K11 : Hid (∃ W, Below w1.heap.size w1 W ∧ Below w9.heap.size w9 W ∧ W.grownBy w11 (Value.slice ao n cap).ownBlock ∧ ((Value.slice ao n cap).ownBlock = some gg ∨ W.heap.size ≤ gg)) := Lib.hid ⟨_, hc9, Below.refl _ _, hgrow, hat.imp id (fun e => by omega)⟩; have TB := Lib.hid tb; clear tb))
    all_goals
      have hh := HFin.out w9 w11 gg cap1 b1 m1 d1 b2 m2 d2 hx K11 hTg TB.out hown1
      unfold putL at hh
      have HH := Lib.hid hh
      clear hh
      have hls : leafStep acc p = acc ++ [bareM p] := by unfold leafStep; rw [if_pos HQ.out.2.2.2.2]
      have HL := Lib.hid hls
      clear hls HFin HX HTg HT HR HC K1 HN hown1 hgrow hat hlt1 g0 g1 g2 g3 g4 g5 f0 f1 f2 f3 f4 f5 t0 t1 t2 t3 p0 p1 p2 p3 p4 p5 r0 r1 r2 r3 r4 r5 m0 m0a K11 hx TB hc9 hTg k0 k1 y0 y1 y2 y3 y4 y5 hw1 hnn h63 hbb hTw hkl z1 hBw hBT
      go_wp2
      refine bodyPost_end (results_none rfl _ _ _) rfl ⟨rfl, ?_⟩
      rw [HL.out]
      first
        | with_reducible exact HH.out.1
        | with_reducible exact HH.out.2
  · have hls : leafStep acc p = acc := by
      unfold leafStep
      rw [if_neg (fun e => h0 (by rw [← hn3, e]; rfl))]
    obtain ⟨e1, e2, _⟩ := lvi_below hI hBT b1
    have Fin := Lib.hid (And.intro hls (And.intro e1 e2))
    have h0i : ((n3 : Int) == 0) = false := by simpa using (fun e : (n3 : Int) = 0 => h0 (by omega))
    have hn3b : n3 ≤ 2 ^ 63 - 1 := by omega
    clear hcopy hX hY hD ht hs hlen hacc hI hls e1 e2 p1 b1 hn3 h0
    go_enter Tryz.func12, Tryz.ntmps12
    go_wp2
    refine bodyPost_end (results_none rfl _ _ _) rfl ⟨rfl, ?_⟩
    rw [Fin.out.1]
    exact Fin.out.2
end Go.Proofs.YtjikghndoklajaaGreatDoor
