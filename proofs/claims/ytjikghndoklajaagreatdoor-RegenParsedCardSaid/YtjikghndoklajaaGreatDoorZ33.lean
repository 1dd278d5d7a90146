/-
  Texts of this proof, put together: MmD.
-/
import Derived.Test.YtjikghndoklajaaGreatDoorZ32
namespace Go.Proofs.YtjikghndoklajaaGreatDoor
open Go.RowKit

theorem one_bad {s : TextH} {c : Int} (h : oneM s = .bad c) : c ≠ 0 := by
  unfold oneM at h
  split at h
  · rename_i h1
    cases h
    exact h1
  · split at h
    · cases h
      decide
    · split at h
      · cases h
        decide
      · split at h
        · split at h
          · cases h
            decide
          · cases h
        · split at h
          · cases h
            decide
          · cases h
theorem cod_mem {l : List FieldH} {c : TextH} (h : codT l = some c) : c = bit7M ∨ c = bit8M ∨ c = base64M ∨ c = quotedM := by
  unfold codT at h
  cases hg : getH l cteM with
  | none =>
    rw [hg] at h
    exact .inl (Option.some.inj h).symm
  | some x =>
    rw [hg] at h
    have := List.mem_of_find?_eq_some h
    simpa [codesM] using this
theorem step_one (sub : Option (TextH → Nat → TreeM × Nat × Int)) (s : TextH) (n : Nat) : stepM sub s n = if 16 ≤ n then (nilM, n, 3) else match oneM s with
    | .bad c => (nilM, n + 1, c)
    | .leaf p => (p, n + 1, 0)
    | .multi p l => match sub with
      | none => (nilM, n + 1, 10)
      | some f => if (allM f l (n + 1)).2.2 = 0 then (.mk p.fields p.typ p.body (allM f l (n + 1)).1, (allM f l (n + 1)).2.1, 0) else (nilM, (allM f l (n + 1)).2) := by
  unfold stepM oneM
  split
  · rfl
  · by_cases hc : (parseH s).2 = 0
    · rw [if_neg (by simp [hc]), if_neg (by simp [hc])]
      cases ht : typM (parseH s).1.1 with
      | none => rfl
      | some t =>
        simp only
        rw [cod_t]
        cases hq : codT (parseH s).1.1 with
        | none =>
          simp only
          by_cases hm : t.1 = multiM
          · rw [if_neg (by simp [hm]), if_pos (.inr (by decide))]
          · rw [if_pos hm]
            rfl
        | some c =>
          simp only
          by_cases hm : t.1 = multiM
          · rw [if_neg (by simp [hm]), if_pos hm]
            unfold textsT
            rcases cod_mem hq with rfl | rfl | rfl | rfl
            · by_cases hb : borderM t = []
              · rw [if_pos (.inl hb), if_pos (.inl hb)]
              · rw [if_neg (fun e => e.elim hb (fun e => e (by decide))), if_neg (fun e => e.elim hb (fun e => e.1 rfl)), divp_eq (border_clean ht).1 (by simp)]
                cases divM (45 :: 45 :: borderM t) (parseH s).1.2 <;> rfl
            · by_cases hb : borderM t = []
              · rw [if_pos (.inl hb), if_pos (.inl hb)]
              · rw [if_neg (fun e => e.elim hb (fun e => e (by decide))), if_neg (fun e => e.elim hb (fun e => e.2 rfl)), divp_eq (border_clean ht).1 (by simp)]
                cases divM (45 :: 45 :: borderM t) (parseH s).1.2 <;> rfl
            · rw [if_pos (.inr (by decide)), if_pos (.inr (by decide))]
            · rw [if_pos (.inr (by decide)), if_pos (.inr (by decide))]
          · rw [if_pos hm, if_neg hm]
            rcases cod_mem hq with rfl | rfl | rfl | rfl
            · rfl
            · rfl
            · rw [show leafM (if base64M = base64M then 1 else if base64M = quotedM then 2 else 0) (parseH s).1.2 = unfoldB (parseH s).1.2 from rfl, show leafT base64M (parseH s).1.2 = unfoldB (parseH s).1.2 from rfl]
              cases unfoldB (parseH s).1.2 <;> rfl
            · rw [show leafM (if quotedM = base64M then 1 else if quotedM = quotedM then 2 else 0) (parseH s).1.2 = decQ (parseH s).1.2 from rfl, show leafT quotedM (parseH s).1.2 = decQ (parseH s).1.2 from rfl]
              cases decQ (parseH s).1.2 <;> rfl
    · rw [if_pos hc, if_pos hc]
theorem divp_mem {mk raw t : TextH} {l : List TextH} (h : divP mk raw = some l) (ht : t ∈ l) : t.length ≤ raw.length := by
  unfold divP at h
  split at h
  · split at h
    · cases h
    · obtain rfl := Option.some.inj h
      refine Nat.le_trans (split_mem ht) ?_
      have h1 : ∀ s q : TextH, (Lib.trimSuffix s q).length ≤ s.length := fun s q => by
        unfold Lib.trimSuffix
        split
        · rw [List.length_take]
          omega
        · exact Nat.le_refl _
      have h2 : ∀ s q : TextH, (Lib.trimPrefix s q).length ≤ s.length := fun s q => by
        unfold Lib.trimPrefix
        split
        · rw [List.length_drop]
          omega
        · exact Nat.le_refl _
      exact Nat.le_trans (h1 _ _) (h2 _ _)
  · cases h
theorem divp_ne {mk raw : TextH} {l : List TextH} (h : divP mk raw = some l) : l ≠ [] := by
  unfold divP at h
  split at h
  · split at h
    · cases h
    · obtain rfl := Option.some.inj h
      exact split_ne
  · cases h
theorem one_leaf {s : TextH} {p : TreeM} (h : oneM s = .leaf p) : p.parts = [] := by
  unfold oneM at h
  split at h
  · cases h
  · split at h
    · cases h
    · split at h
      · cases h
      · split at h
        · split at h <;> cases h
        · split at h
          · cases h
          · cases h
            rfl
theorem one_multi {s : TextH} {p : TreeM} {l : List TextH} (h : oneM s = .multi p l) : l ≠ [] ∧ p.parts = [] ∧ p.body = [] ∧ ∀ t ∈ l, t.length ≤ s.length := by
  unfold oneM at h
  split at h
  · cases h
  · split at h
    · cases h
    · split at h
      · cases h
      · split at h
        · split at h
          · cases h
          · rename_i l2 hx
            cases h
            unfold textsT at hx
            split at hx
            · cases hx
            · exact ⟨divp_ne hx, rfl, rfl, fun t ht => Nat.le_trans (divp_mem hx ht) (parse_small s).2⟩
        · split at h <;> cases h
theorem all_append {f : TextH → Nat → TreeM × Nat × Int} : ∀ (a b : List TextH) (n : Nat), (allM f a n).2.2 = 0 → allM f (a ++ b) n = ((allM f a n).1 ++ (allM f b (allM f a n).2.1).1, (allM f b (allM f a n).2.1).2)
  | [], b, n, _ => rfl
  | t :: a, b, n, h => by
    by_cases h1 : (f t n).2.2 = 0
    · have e : allM f (t :: a) n = ((f t n).1 :: (allM f a (f t n).2.1).1, (allM f a (f t n).2.1).2) := by
        rw [allM, if_pos h1]
      rw [e] at h ⊢
      have ih := all_append a b (f t n).2.1 h
      rw [List.cons_append, allM, if_pos h1, ih]
      rfl
    · rw [allM, if_neg h1] at h
      exact absurd h h1
theorem all_cons_bad {f : TextH → Nat → TreeM × Nat × Int} {t : TextH} {l : List TextH} {n : Nat} (h : (f t n).2.2 ≠ 0) : allM f (t :: l) n = ([], (f t n).2) := by
  rw [allM, if_neg h]
theorem all_one {f : TextH → Nat → TreeM × Nat × Int} {t : TextH} {n : Nat} (h : (f t n).2.2 = 0) : allM f [t] n = ([(f t n).1], (f t n).2.1, 0) := by
  rw [allM, if_pos h]
  rfl
theorem all_bad {f : TextH → Nat → TreeM × Nat × Int} {l : List TextH} {n k i : Nat} {ps : List TreeM} (h : allM f (l.take i) n = (ps, k, 0)) (hi : i < l.length) (hb : (f l[i] k).2.2 ≠ 0) : (allM f l n).2 = (f l[i] k).2 := by
  have e := all_append (f := f) (l.take i) (l.drop i) n (by rw [h])
  rw [List.take_append_drop, h, List.drop_eq_getElem_cons hi, all_cons_bad hb] at e
  rw [e]
theorem all_next {f : TextH → Nat → TreeM × Nat × Int} {l : List TextH} {n k i : Nat} {ps : List TreeM} (h : allM f (l.take i) n = (ps, k, 0)) (hi : i < l.length) (hb : (f l[i] k).2.2 = 0) : allM f (l.take (i + 1)) n = (ps ++ [(f l[i] k).1], (f l[i] k).2.1, 0) := by
  have e := all_append (f := f) (l.take i) [l[i]] n (by rw [h])
  rw [List.take_succ_eq_append_getElem hi, e, h]
  rw [all_one hb]
theorem part_le : ∀ (d : Nat) (s : TextH) (n : Nat), n ≤ 16 → (partM d s n).2.1 ≤ 16
  | d, s, n, hn => by
    have hall : ∀ d', (∀ s n, n ≤ 16 → (partM d' s n).2.1 ≤ 16) → ∀ (l : List TextH) n, n ≤ 16 → (allM (partM d') l n).2.1 ≤ 16 := fun d' ih l => by
      induction l with
      | nil => exact fun n h => h
      | cons t l ihl =>
        intro n h
        rw [allM]
        split
        · exact ihl _ (ih t n h)
        · exact ih t n h
    have hstep : ∀ sub : Option (TextH → Nat → TreeM × Nat × Int), (∀ f, sub = some f → ∀ l n, n ≤ 16 → (allM f l n).2.1 ≤ 16) → (stepM sub s n).2.1 ≤ 16 := fun sub hs => by
      rw [step_one]
      split
      · exact hn
      · rename_i h16
        split
        · show n + 1 ≤ 16
          omega
        · show n + 1 ≤ 16
          omega
        · split
          · show n + 1 ≤ 16
            omega
          · split
            · exact hs _ rfl _ _ (by omega)
            · exact hs _ rfl _ _ (by omega)
    match d with
    | 0 => exact hstep none (fun f h => by cases h)
    | d + 1 =>
      refine hstep (some (partM d)) (fun f h => ?_)
      obtain rfl := Option.some.inj h
      exact hall d (part_le d)

def ReadPost (r : TreeM × Nat × Int) (Cb : Nat) (w : World) (e : Ending) (w' : World) : Prop :=
  TakeK Cb w.heap.size w w' ∧ Boxed w' Cb 3 (.int .i64 r.2.1) ∧ ∃ fv pv rv, e = .returned (.tuple #[partV r.1 fv pv rv, .int .i64 r.2.2]) ∧ TreeP w' (fun g => w.heap.size ≤ g) r.1 fv pv rv
def readerV (Cb Rb : Nat) : Value := .func (.func 14) #[] #[.pointer (some ⟨Cb, 0, none⟩), .pointer (some ⟨Rb, 0, none⟩)]
structure RdOk (Cb Rb : Nat) (m : Int) (n : Nat) (w : World) : Prop where
  c : Boxed w Cb 3 (.int .i64 n)
  r : Boxed w Rb 40 (readerV Cb Rb)
  ne : Cb ≠ Rb
  m : w.cell? ⟨0, 0, none⟩ = some (.int .i64 m)
  g : Cb ≠ 0
theorem RdOk.take {Cb Rb : Nat} {m : Int} {n k : Nat} {w w' : World} (h : RdOk Cb Rb m n w) (t : TakeK Cb w.heap.size w w') (hc : Boxed w' Cb 3 (.int .i64 k)) : RdOk Cb Rb m k w' :=
  ⟨hc, t.box h.r h.r.lt h.ne.symm, h.ne, (t.cell (p := ⟨0, 0, none⟩) (cell_ltP h.m) h.g.symm).trans h.m, h.g⟩
theorem take_putP {T N B : Nat} {w w' : World} (h : TakeK T B w w') (hN : B ≤ N) (a b c d e f : Value) : TakeK T B w (putP w' N a b c d e f) := h.trans (.of (below_putP (Below.refl _ _) hN a b c d e f))
structure RdLoop (Cb Rb : Nat) (m : Int) (w : World) (lo N8 B0 bT : Nat) (fv X Y pv D rv : Value) (p : TreeM) (l : List TextH) (acc : List KidM) (cnt : Nat) (wr : World) : Prop where
  k1 : Cb < lo ∧ Rb < lo ∧ w.heap.size + 1 = lo ∧ Cb ≠ w.heap.size ∧ 0 < lo ∧ 0 ≠ w.heap.size
  k2 : lo ≤ N8 ∧ N8 < B0 ∧ lo ≤ bT ∧ bT < N8 ∧ B0 ≤ wr.heap.size
  t : TakeK Cb w.heap.size w wr
  ok : RdOk Cb Rb m cnt wr
  p6 : PrtAt wr w.heap.size (.slice none 0 0) (.string ⟨#[]⟩) (.string ⟨#[]⟩) (.slice none 0 0) (.string ⟨#[]⟩) (.slice none 0 0)
  p8 : PrtAt wr N8 fv X Y pv D rv
  ff : FieldsP wr (fun g => lo ≤ g ∧ g < N8) fv p.fields
  pp : ParsP wr (fun g => lo ≤ g ∧ g < N8) pv p.typ.2.2
  own : PartsOwn wr B0 rv acc
  kids : KidsP wr (fun g => B0 ≤ g ∧ rv.ownBlock ≠ some g) acc
  tx : ∀ i (h : i < l.length), wr.cell? ⟨bT, i, none⟩ = some (.string (textQ l[i]))
theorem row_take {T B0 e size n : Nat} {w w' : World} {v : Value} {xs : List Value} (h : w.ownsRow B0 e size v n xs) (hT : T < B0) (k : TakeK T w.heap.size w w') : w'.ownsRow B0 e size v n xs :=
  ⟨h.1, h.2.imp id fun ⟨g, cap, cur, h1, h2, h3, h4⟩ => ⟨g, cap, cur, h1, h2, k.heap h3 (heap_lt h3) (by omega), h4⟩⟩
section
variable {Cb Rb : Nat} {m : Int} {w : World} {lo N8 B0 bT : Nat} {fv X Y pv D rv : Value} {p : TreeM} {l : List TextH} {acc : List KidM} {cnt : Nat} {wr w' : World}
theorem RdLoop.call (h : RdLoop Cb Rb m w lo N8 B0 bT fv X Y pv D rv p l acc cnt wr) (k : TakeK Cb wr.heap.size wr w') {c : Nat} (hc : Boxed w' Cb 3 (.int .i64 c)) : RdLoop Cb Rb m w lo N8 B0 bT fv X Y pv D rv p l acc c w' := by
  obtain ⟨k1, k2, t, ok, p6, p8, ff, pp, own, kids, tx⟩ := h
  have hz := k.size
  have hc6 : ∀ g, lo ≤ g → g < wr.heap.size → ∀ j, w'.cell? ⟨g, j, none⟩ = wr.cell? ⟨g, j, none⟩ := fun g hg hl j => k.cell (p := ⟨g, j, none⟩) hl (by show g ≠ Cb; omega)
  refine ⟨k1, ⟨k2.1, k2.2.1, k2.2.2.1, k2.2.2.2.1, by omega⟩, t.trans (k.mono t.size), ok.take k hc, k.heap p6 p6.lt (by omega), k.heap p8 p8.lt (by omega), ff.to (fun g hg hl => ⟨hg, hc6 g hg.1 hl⟩), pp.to (fun g hg hl => ⟨hg, hc6 g hg.1 hl⟩), row_take own (by omega) k, kids.to (fun g hg hl => ⟨hg, hc6 g (by omega) hl⟩), fun i h => (hc6 bT k2.2.2.1 (by omega) i).trans (tx i h)⟩
theorem RdLoop.below (h : RdLoop Cb Rb m w lo N8 B0 bT fv X Y pv D rv p l acc cnt wr) (k : Below wr.heap.size wr w') : RdLoop Cb Rb m w lo N8 B0 bT fv X Y pv D rv p l acc cnt w' := h.call (.of k) (boxed_below h.ok.c k)
theorem RdLoop.app (h : RdLoop Cb Rb m w lo N8 B0 bT fv X Y pv D rv p l acc cnt wr) {x : KidM} (hx : TreeP wr (fun g => B0 ≤ g ∧ rv.ownBlock ≠ some g) x.1 x.2.1 x.2.2.1 x.2.2.2) {v' : Value} (ho : PartsOwn w' B0 v' (acc ++ [x])) (hg : wr.grownBy w' rv.ownBlock) (hv : v'.ownBlock = rv.ownBlock ∨ v'.ownBlock = some wr.heap.size) :
    PrtAt w' N8 fv X Y pv D rv ∧ RdLoop Cb Rb m w lo N8 B0 bT fv X Y pv D v' p l (acc ++ [x]) cnt (w'.setCell ⟨N8, 5, none⟩ v') := by
  obtain ⟨k1, k2, t, ok, p6, p8, ff, pp, own, kids, tx⟩ := h
  have hlt := own.lt
  have hno : ∀ g, g < B0 → rv.ownBlock ≠ some g := fun g hg e => by have := (hlt g e).1; omega
  have hb : ∀ g, g < B0 → g < wr.heap.size → w'.heap[g]? = wr.heap[g]? := fun g h1 h2 => hg.block g h2 (fun e => hno g h1 e.symm)
  have hkids : KidsP wr (fun g => B0 ≤ g ∧ rv.ownBlock ≠ some g) (acc ++ [x]) := fun y hy => by
    rcases List.mem_append.1 hy with hy | hy
    · exact kids y hy
    · obtain rfl := List.mem_singleton.1 hy
      exact hx
  have p8' : PrtAt w' N8 fv X Y pv D rv := (hb N8 (by omega) (by omega)).trans p8
  have hs : ∀ g, g ≠ N8 → (w'.setCell ⟨N8, 5, none⟩ v').heap[g]? = w'.heap[g]? := fun g hne => Below.heap_setCell w' ⟨N8, 5, none⟩ v' g hne
  have hbs : ∀ g, g < B0 → g ≠ N8 → g < wr.heap.size → (w'.setCell ⟨N8, 5, none⟩ v').heap[g]? = wr.heap[g]? := fun g h1 h2 h3 => (hs g h2).trans (hb g h1 h3)
  have hz : (w'.setCell ⟨N8, 5, none⟩ v').heap.size = w'.heap.size := by simp [World.setCell]
  have hcl := ok.c.lt
  have hrl := ok.r.lt
  have hml := cell_ltP ok.m
  refine ⟨p8', k1, ⟨k2.1, k2.2.1, k2.2.2.1, k2.2.2.2.1, by rw [hz]; have := hg.size; omega⟩, ?_, ?_, ?_, p8'.parts v', ?_, ?_, ?_, ?_, ?_⟩
  · have hgb : TakeK Cb w.heap.size wr (w'.setCell ⟨N8, 5, none⟩ v') := ⟨hg.os, hg.tape, hg.output, by rw [hz]; exact hg.size, fun k hk _ => hbs k (by omega) (by omega) (by omega)⟩
    exact t.trans hgb
  · exact ⟨(hbs Cb (by omega) (by omega) hcl).trans ok.c, (hbs Rb (by omega) (by omega) hrl).trans ok.r, ok.ne, (cell_block (hbs 0 (by omega) (by omega) hml)).trans ok.m, ok.g⟩
  · exact (hbs w.heap.size (by omega) (by omega) p6.lt).trans p6
  · exact ff.to fun g hg hl => ⟨hg, fun j => cell_block (hbs g (by omega) (by omega) hl)⟩
  · exact pp.to fun g hg hl => ⟨hg, fun j => cell_block (hbs g (by omega) (by omega) hl)⟩
  · exact ownsRow_setCell_below ho (a := ⟨N8, 5, none⟩) (by show N8 < B0; omega) _
  · have hN8 := p8'.lt
    have hk2 := kids_grown (v' := v') (B := B0) hkids hg hv
    exact hk2.to fun g hg _ => ⟨hg, fun j => cell_block (hs g (by omega))⟩
  · exact fun i h => (cell_block (hbs bT (by omega) (by omega) (by omega))).trans (tx i h)
end
theorem prt_kid {w : World} {B : Nat} {fv pv rv : Value} {X Y D : ByteArray} {q : TreeM} (h : PrtAt w B fv (.string X) (.string Y) pv (.string D) rv) (h1 : textQ q.typ.1 = X) (h2 : textQ q.typ.2.1 = Y) (h3 : textQ q.body = D) : ∀ j, j < 6 → w.cell? ⟨B, j, none⟩ = (kidCells (q, fv, pv, rv))[j]? := by
  obtain ⟨c0, c1, c2, c3, c4, c5, _⟩ := h.cells
  unfold kidCells
  rw [h1, h2, h3]
  intro j hj
  match j, hj with
  | 0, _ => exact c0
  | 1, _ => exact c1
  | 2, _ => exact c2
  | 3, _ => exact c3
  | 4, _ => exact c4
  | 5, _ => exact c5
def HeldW (p : Prop) : Prop := p
theorem HeldW.of {p : Prop} (h : HeldW p) : p := h
end Go.Proofs.YtjikghndoklajaaGreatDoor
