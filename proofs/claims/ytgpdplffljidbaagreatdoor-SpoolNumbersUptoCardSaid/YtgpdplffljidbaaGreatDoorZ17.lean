/-
  Texts of this proof, put together: St3.
-/
import Derived.Test.YtgpdplffljidbaaGreatDoorZ16
import Derived.Test.YtgpdplffljidbaaGreatDoorZ10
import Derived.Test.YtgpdplffljidbaaGreatDoorZ05
import Derived.Sort.BigQuietIn
import Derived.Sort.QuietTacIn
namespace Go.Proofs.YtgpdplffljidbaaGreatDoor
open Go.RowKit Go.Maps Go.Shelf

attribute [local go_sem] Oper.semAt_some

def runD (d : Dk) : List (Nat × List UInt8) → Dk × Int
  | [] => (d, 0)
  | x :: l => if sayD d (x.1 : Int) x.2 = 0 then runD (writeD d (x.1 : Int) x.2) l else (writeD d (x.1 : Int) x.2, sayD d (x.1 : Int) x.2)
theorem run_snoc (d : Dk) (x : Nat × List UInt8) : ∀ (l : List (Nat × List UInt8)) {d' : Dk}, runD d l = (d', 0) → runD d (l ++ [x]) = (writeD d' (x.1 : Int) x.2, sayD d' (x.1 : Int) x.2) := by
  intro l
  induction l generalizing d with
  | nil =>
    intro d' h
    cases h
    rw [List.nil_append, runD, runD]
    split
    · rename_i e
      rw [e]
    · rfl
  | cons y l ih =>
    intro d' h
    rw [runD] at h
    rw [List.cons_append, runD]
    split at h
    · rename_i e
      rw [if_pos e]
      exact ih _ h
    · rename_i e
      exact absurd (Prod.mk.inj h).2 e
theorem run_dead (d : Dk) : ∀ (l m : List (Nat × List UInt8)) {d' : Dk} {e : Int}, runD d l = (d', e) → e ≠ 0 → runD d (l ++ m) = (d', e) := by
  intro l
  induction l generalizing d with
  | nil => intro m d' e h he; cases h; exact absurd rfl he
  | cons y l ih =>
    intro m d' e h he
    rw [runD] at h
    rw [List.cons_append, runD]
    split at h
    · rename_i e0
      rw [if_pos e0]
      exact ih _ m h he
    · rename_i e0
      rw [if_neg e0]
      exact h
theorem run_wr (d : Dk) : ∀ (l : List (Nat × List UInt8)) {d' : Dk} {e : Int}, runD d l = (d', e) → d'.wr ≤ d.wr + l.length := by
  intro l
  induction l generalizing d with
  | nil => intro d' e h; cases h; simp
  | cons y l ih =>
    intro d' e h
    rw [runD] at h
    have hw := write_wr d (y.1 : Int) y.2
    split at h
    · have := ih _ h
      rw [List.length_cons]
      rcases hw with hw | hw <;> omega
    · have e1 := (Prod.mk.inj h).1
      rw [← e1, List.length_cons]
      rcases hw with hw | hw <;> omega
theorem run_app (d : Dk) : ∀ (l m : List (Nat × List UInt8)) {d' : Dk}, runD d l = (d', 0) → runD d (l ++ m) = runD d' m := by
  intro l
  induction l generalizing d with
  | nil => intro m d' h; cases h; rfl
  | cons y l ih =>
    intro m d' h
    rw [runD] at h
    rw [List.cons_append, runD]
    split at h
    · rename_i e
      rw [if_pos e]
      exact ih _ m h
    · rename_i e
      exact absurd (Prod.mk.inj h).2 e
theorem keeps_turned {S : Nat → Prop} {W W' : World} (h : Turned S W W') (hS : ∀ b, S b → W.heap.size ≤ b ∨ ∃ cs T fz, W.heap[b]? = some (.cells cs T fz)) : KeepsOthers W W' := by
  refine ⟨h.size, fun k o hk ho => h.heap hk fun hs => ?_⟩
  have hlt := (Array.getElem?_eq_some_iff.1 hk).1
  rcases hS k hs with h1 | ⟨cs, T, fz, h1⟩
  · omega
  · rw [hk] at h1
    cases h1
    cases ho
theorem Held9.of_turned {S : Nat → Prop} {W W' : World} {b : Nat} {cs : Array Value} {T : TypeId} (h : Held9 W b cs T) (t : Turned S W W') (hs : ¬ S b) : Held9 W' b cs T := t.heap h hs
theorem three_new (w : World) (o1 o2 o3 : Obj) : (((w.alloc o1).alloc o2).alloc o3).heap[w.heap.size]? = some o1 ∧ (((w.alloc o1).alloc o2).alloc o3).heap[w.heap.size + 1]? = some o2 ∧ (((w.alloc o1).alloc o2).alloc o3).heap[w.heap.size + 1 + 1]? = some o3 ∧ (((w.alloc o1).alloc o2).alloc o3).heap.size = w.heap.size + 1 + 1 + 1 ∧ Below w.heap.size w (((w.alloc o1).alloc o2).alloc o3) := by
  refine ⟨?_, ?_, ?_, by simp, (((Below.refl _ w).alloc (Nat.le_refl _) _).alloc (by simp) _).alloc (by simp; omega) _⟩
  · rw [heap_alloc_old _ _ (by simp; omega), heap_alloc_old _ _ (by simp), heap_alloc_new]
  · rw [heap_alloc_old _ _ (by simp)]
    have := heap_alloc_new (w.alloc o1) o2
    simpa using this
  · have := heap_alloc_new ((w.alloc o1).alloc o2) o3
    simpa using this
def layE (st : StP) (p : PlP) (n : Nat) : List (Nat × List UInt8) := if p.at_ + secN n < st.sz then [(st.fr + p.half * st.sz + (p.at_ + secN n), [])] else []
def layP (p : PlP) (t : List UInt8) : List (List UInt8) := (List.range (secN t.length)).map (pieceR (allR sumH p.gen p.num t))
def layA (st : StP) (p : PlP) (x : Nat × List UInt8) : Nat × List UInt8 := (st.fr + p.half * st.sz + (p.at_ + x.1), x.2)
def layL (st : StP) (p : PlP) (t : List UInt8) : List (Nat × List UInt8) := layE st p t.length ++ (revJ (layP p t) (layP p t).length).map (layA st p)
def layS (st : StP) (p : PlP) (n : Nat) (code : Int) : StP := if code = 0 then ⟨st.fr, st.sz, plNext p n, st.lost⟩ else st
theorem Turned.mono {S T : Nat → Prop} {W W' : World} (h : Turned S W W') (hST : ∀ b, S b → T b) : Turned T W W' := ⟨h.os, h.tape, h.output, h.size, fun k hk hs => h.block k hk fun e => hs (hST k e)⟩
theorem Turned.set' {S : Nat → Prop} {W W' : World} {j N : Nat} {v : Value} (h : Turned S W W') (hN : S N) : Turned S W (W'.setCell ⟨N, j, none⟩ v) := h.trans (Turned.set hN) fun _ h => .inl h
theorem OnceOk.of {cs cs' : Array Value} (h : OnceOk cs) (hz : cs'.size = cs.size) (hl : ∀ j, 9 ≤ j → cs'[j]? = cs[j]?) : OnceOk cs' := by
  refine ⟨hz.trans h.size, (hl 10 (by decide)).trans h.lock, fun j hj => ?_, h.tab.imp (fun e => (hl 9 (by decide)).trans e) fun e => ⟨(hl 9 (by decide)).trans e.1, e.2.out (fun j _ => hl _ (by omega)) fun j _ _ => hl _ (by omega)⟩⟩
  obtain ⟨x, hx⟩ := h.words j hj
  exact ⟨x, (hl _ (by omega)).trans hx⟩
theorem CellsOk.setPl {cs : Array Value} {Nd m : Nat} {st : StP} (h : CellsOk cs Nd m st) (q : PlP) :
    CellsOk ((((cs.setIfInBounds 3 (.int .i64 (q.half : Int))).setIfInBounds 4 (.int .i64 (q.at_ : Int))).setIfInBounds 5 (.int .u32 (q.gen : Int))).setIfInBounds 6 (.int .u32 (q.num : Int))) Nd m ⟨st.fr, st.sz, q, st.lost⟩ := by
  have hz : 8 < cs.size := (Array.getElem?_eq_some_iff.1 h.c8).1
  refine ⟨?_, ?_, ?_, ?_, ?_, ?_, ?_, ?_, ?_, h.once.of (by simp) fun j hj => ?_⟩
  · simpa [Array.getElem?_setIfInBounds] using h.c0
  · simpa [Array.getElem?_setIfInBounds] using h.c1
  · simpa [Array.getElem?_setIfInBounds] using h.c2
  · rw [Array.getElem?_setIfInBounds_ne (by omega), Array.getElem?_setIfInBounds_ne (by omega), Array.getElem?_setIfInBounds_ne (by omega), set_get9 _ _ _ _ (by omega), if_pos rfl]
  · rw [Array.getElem?_setIfInBounds_ne (by omega), Array.getElem?_setIfInBounds_ne (by omega), set_get9 _ _ _ _ (by simp; omega), if_pos rfl]
  · rw [Array.getElem?_setIfInBounds_ne (by omega), set_get9 _ _ _ _ (by simp; omega), if_pos rfl]
  · rw [set_get9 _ _ _ _ (by simp; omega), if_pos rfl]
  · simpa [Array.getElem?_setIfInBounds] using h.c7
  · simpa [Array.getElem?_setIfInBounds] using h.c8
  · rw [Array.getElem?_setIfInBounds_ne (by omega), Array.getElem?_setIfInBounds_ne (by omega), Array.getElem?_setIfInBounds_ne (by omega), Array.getElem?_setIfInBounds_ne (by omega)]
structure LayAt (a c N : Nat) (p q : PlP) (r : Value) (W : World) : Prop where
  b3 : Boxed W a 26 (.pointer (some ⟨N, 0, none⟩))
  b4 : Held9 W (a + 1) (plCells p) 92
  b6 : Boxed W (a + 1 + 1) 36 r
  b7 : Held9 W c (plCells q) 92
theorem LayAt.keep {S : Nat → Prop} {a c N : Nat} {p q : PlP} {r : Value} {W W' : World} (h : LayAt a c N p q r W) (t : Turned S W W') (h3 : ¬ S a) (h4 : ¬ S (a + 1)) (h6 : ¬ S (a + 1 + 1)) (h7 : ¬ S c) : LayAt a c N p q r W' :=
  ⟨t.heap h.b3 h3, t.heap h.b4 h4, t.heap h.b6 h6, t.heap h.b7 h7⟩

def LayI (B Nd g bs : Nat) (f : Nat × List UInt8 → Nat × List UInt8) (d0 : Dk) (w7 : World) (pre : List (Nat × List UInt8)) (W : World) : Prop :=
  ∃ d', runD d0 (pre.map f) = (d', 0) ∧ DiskAt W B Nd g d' ∧ Turned (fun b => mineD Nd g b ∨ b = bs) w7 W
def LayX (B Nd g bs r : Nat) (f : Nat × List UInt8 → Nat × List UInt8) (d0 : Dk) (w7 : World) (c : Code) (pre : List (Nat × List UInt8)) (W : World) : Prop :=
  c = .ret ∧ ∃ d' code, code ≠ 0 ∧ runD d0 (pre.map f) = (d', code) ∧ DiskAt W B Nd g d' ∧ Turned (fun b => mineD Nd g b ∨ b = bs ∨ b = r) w7 W ∧ Boxed W r 36 (.int .i64 code)
theorem DiskAt.grown {W W' : World} {B Nd g : Nat} {d : Dk} {row : Option Nat} (h : DiskAt W B Nd g d) (hg : W.grownBy W' row) (hr : ∀ r, row = some r → ∃ o : Obj, W.heap[r]? = some o ∧ o.isCells = false) : DiskAt W' B Nd g d := by
  refine h.keep (S := fun b => row = some b) (Turned.of_grown hg fun k e => .inl e) fun b hb e => ?_
  obtain ⟨o, ho, hc⟩ := hr b e
  obtain ⟨cap, rest, _, _, h3, h4⟩ := h.mem
  rcases hb with rfl | rfl
  · rw [h3] at ho; cases ho; cases hc
  · rw [h4] at ho; cases ho; cases hc
theorem LayI.own {B Nd g bs M : Nat} {f : Nat × List UInt8 → Nat × List UInt8} {d0 : Dk} {w7 : World} (hM : w7.heap.size ≤ M) : OwnFrom M (LayI B Nd g bs f d0 w7) := by
  rintro pre W W' row ⟨d', h1, h2, h3⟩ hg hr
  exact ⟨d', h1, h2.grown hg fun r e => (hr r e).2, h3.trans (Turned.of_grown (S := fun b => row = some b) hg fun k e => .inl e) fun b e => .inr (by have := (hr b e).1; omega)⟩
theorem LayX.own {B Nd g bs r M : Nat} {f : Nat × List UInt8 → Nat × List UInt8} {d0 : Dk} {w7 : World} (hM : w7.heap.size ≤ M) (c : Code) : OwnFrom M (LayX B Nd g bs r f d0 w7 c) := by
  rintro pre W W' row ⟨rfl, d', code, h0, h1, h2, h3, h4⟩ hg hr
  refine ⟨rfl, d', code, h0, h1, h2.grown hg fun r e => (hr r e).2, h3.trans (Turned.of_grown (S := fun b => row = some b) hg fun k e => .inl e) fun b e => .inr (by have := (hr b e).1; omega), ?_⟩
  refine (hg.block r (Array.getElem?_eq_some_iff.1 h4).1 fun e => ?_).trans h4
  obtain ⟨o, ho, hc⟩ := (hr r e.symm).2
  rw [show W.heap[r]? = _ from h4] at ho
  cases ho
  cases hc
theorem LayI.store {B Nd g bs : Nat} {f : Nat × List UInt8 → Nat × List UInt8} {d0 : Dk} {w7 : World} (hbs : ¬ mineD Nd g bs) (pre : List (Nat × List UInt8)) (A : World) (v : Value) : LayI B Nd g bs f d0 w7 pre A → LayI B Nd g bs f d0 w7 pre (A.setCell ⟨bs, 0, none⟩ v) := by
  rintro ⟨d', h1, h2, h3⟩
  have ht : Turned (fun b => b = bs) A (A.setCell ⟨bs, 0, none⟩ v) := Turned.set rfl
  exact ⟨d', h1, h2.keep ht fun b hb e => hbs (e ▸ hb), h3.trans ht fun b e => .inl (.inr e)⟩
theorem DiskAt.cellsOf {W : World} {B Nd g : Nat} {d : Dk} (h : DiskAt W B Nd g d) : ∀ b, mineD Nd g b → ∃ cs T fz, W.heap[b]? = some (.cells cs T fz) := by
  obtain ⟨cap, rest, _, _, h3, h4⟩ := h.mem
  rintro b (rfl | rfl)
  · exact ⟨_, _, _, h3⟩
  · exact ⟨_, _, _, h4⟩
theorem revJ_len (L : List (List UInt8)) : ∀ j, (revJ L j).length = j
  | 0 => rfl
  | j + 1 => by rw [revJ, List.length_cons, revJ_len L j]
theorem layP_get (p : PlP) (t : List UInt8) (j : Nat) : ((layP p t).getD j []).length ≤ 64 := by
  unfold layP
  rw [List.getD_eq_getElem?_getD, List.getElem?_map]
  cases (List.range (secN t.length))[j]? with
  | none => simp
  | some i =>
    simp only [Option.map_some, Option.getD_some]
    unfold pieceR
    rw [List.length_take]
    omega

set_option maxRecDepth 100000 in
set_option maxHeartbeats 8000000 in
theorem lay_any (B N Nd g m : Nat) (cs : Array Value) (st : StP) (d : Dk) (w : World) (h : Held9 w N cs 110) (hc : CellsOk cs Nd m st) (hd : DiskAt w B Nd g d) (hB : B ≤ w.heap.size) (hNd : ∀ b, mineD Nd g b → b ≠ N) (hwr : d.wr ≤ 900000000000000)
    (hlost : st.lost = false) (hf : st.fr ≤ 100000) (hz : st.sz ≤ 100000) (p : PlP) (hph : p.half ≤ 1) (hpa : p.at_ ≤ 10000) (hpg : p.gen < 4294967296) (hpn : p.num < 4294967295) (t : ByteArray) (ht : t.size ≤ 1000000) :
    Calls Tryz.prog 65 #[.pointer (some ⟨N, 0, none⟩), plV p, .string t] w fun e w' => ∃ d' code cs', e = .returned (.int .i64 code) ∧
      runD d (layL st p t.data.toList) = (d', code) ∧
      DiskAt w' B Nd g d' ∧ Held9 w' N cs' 110 ∧ CellsOk cs' Nd m (layS st p t.size code) ∧ Turned (fun b => b = N ∨ mineD Nd g b) w w' := by
  have hsn : secN t.size ≤ 20000 := by unfold secN; omega
  have hbeh := behind_any p t.size (by omega) (by omega) hpn
  have hlt := h.lt
  have H := Lib.hid (And.intro h (And.intro hc hd))
  clear h hc hd
  obtain ⟨half, at_, gen, num⟩ := p
  simp only [plV, plCells] at hph hpa hpg hpn hbeh ⊢
  refine (callsIn_wide (n := 8)).1 ?_
  refine callsIn_of_wp_marks Tryz.func65 rfl trivial ?_ rfl
  simp only [Tryz.ntmps65, List.size_toArray, List.length_cons, List.length_nil, Nat.reduceAdd, Nat.reduceSub, Array.replicate_succ, Array.replicate_zero, List.push_toArray, List.append_toArray, List.nil_append, List.cons_append]
  gi_wp2_with fail
  --@a
  refine ⟨trivial, ?_⟩
  refine (callsIn_wide.2 (hbeh _)).mono ?_
  rintro e w2 ⟨rfl, hb2⟩
  have hz2 : w.heap.size + 1 + 1 + 1 ≤ w2.heap.size := by have := hb2.size; simp at this; omega
  have hthree := three_new w (.cells #[.pointer (some ⟨N, 0, none⟩)] 26) (.cells #[.int .i64 (half : Int), .int .i64 (at_ : Int), .int .u32 (gen : Int), .int .u32 (num : Int)] 92) (.cells #[.int .i64 0] 36)
  have hL2 : Boxed w2 w.heap.size 26 (.pointer (some ⟨N, 0, none⟩)) ∧ Held9 w2 (w.heap.size + 1) (plCells ⟨half, at_, gen, num⟩) 92 ∧ Boxed w2 (w.heap.size + 1 + 1) 36 (.int .i64 0) := by
    obtain ⟨q1, q2, q3, q4, q5⟩ := hthree
    exact ⟨(hb2.block _ (by rw [q4]; omega)).trans q1, (hb2.block _ (by rw [q4]; omega)).trans q2, (hb2.block _ (by rw [q4]; omega)).trans q3⟩
  have hw2 : Below w.heap.size w w2 := by
    obtain ⟨q1, q2, q3, q4, q5⟩ := hthree
    exact q5.trans (hb2.mono (by rw [q4]; omega))
  clear hthree
  obtain ⟨q, hq⟩ : ∃ q : PlP, plNext ⟨half, at_, gen, num⟩ t.size = q := ⟨_, rfl⟩
  rw [hq]
  gi_wp2
  have hw3 : ∃ w3, w2.alloc (.cells (plCells q) 92) = w3 := ⟨_, rfl⟩
  obtain ⟨w3, hw3⟩ := hw3
  have hL3 : LayAt w.heap.size w2.heap.size N ⟨half, at_, gen, num⟩ q (.int .i64 0) w3 := by
    rw [← hw3]
    have ha : Turned (fun _ => False) w2 (w2.alloc (.cells (plCells q) 92)) := Turned.of_below ((Below.refl _ w2).alloc (Nat.le_refl _) _) (Nat.le_refl _)
    exact ⟨ha.heap hL2.1 id, ha.heap hL2.2.1 id, ha.heap hL2.2.2 id, heap_alloc_new _ _⟩
  have hz3 : w2.heap.size + 1 = w3.heap.size := by rw [← hw3]; simp
  have hM : ∀ b, mineD Nd g b → b < w.heap.size := fun b hb => (H.out.2.2.blocks b hb).2
  have hw3b : Below w.heap.size w w3 := by
    rw [← hw3]
    exact hw2.alloc (by omega) _
  simp only [plCells] at hw3
  rw [hw3]
  have k3 := hL3.b3.cell
  have k71 := hL3.b7.cell 1
  have kN := (H.out.1.below hw3b hlt).cell 2
  rw [H.out.2.1.c2] at kN
  simp only [plCells, List.getElem?_toArray, List.getElem?_cons_succ, List.getElem?_cons_zero] at k71
  clear hL2 hb2 hbeh hw2 hw3
  --@b
  gi_quiet_th (fail)
  rename_i Kr hKr Kc hKc
  have hrest : ∀ (u8 u22 u23 u24 u25 u26 u27 u28 u29 u30 u31 : Value) (d0 : Dk) (W5 : World), DiskAt W5 B Nd g d0 → Turned (mineD Nd g) w3 W5 → d0.wr ≤ 900000000000001 → runD d (layE st ⟨half, at_, gen, num⟩ t.size) = (d0, 0) → Kr { tmps := #[.pointer (some ⟨N, 0, none⟩), .agg #[.int .i64 (half : Int), .int .i64 (at_ : Int), .int .u32 (gen : Int), .int .u32 (num : Int)], .string t, .pointer (some ⟨w.heap.size, 0, none⟩), .pointer (some ⟨w.heap.size + 1, 0, none⟩), undef, .pointer (some ⟨w.heap.size + 1 + 1, 0, none⟩), .pointer (some ⟨w2.heap.size, 0, none⟩), u8, undef, undef, undef, .agg #[.int .i64 (half : Int), .int .i64 (at_ : Int), .int .u32 (gen : Int), .int .u32 (num : Int)], .string t, .int .i64 (t.size : Int), .agg #[.int .i64 (q.half : Int), .int .i64 (q.at_ : Int), .int .u32 (q.gen : Int), .int .u32 (q.num : Int)], .pointer (some ⟨w2.heap.size, 1, none⟩), .int .i64 (q.at_ : Int), .pointer (some ⟨N, 0, none⟩), .pointer (some ⟨N, 0, none⟩), .pointer (some ⟨N, 2, none⟩), .int .i64 (st.sz : Int), u22, u23, u24, u25, u26, u27, u28, u29, u30, u31, undef, undef, undef, undef, undef, undef, undef, undef, undef, undef, undef, undef, undef, undef, undef, undef, undef, undef, undef, undef, undef, undef, undef], defers := [] } W5 := by
    intro u8 u22 u23 u24 u25 u26 u27 u28 u29 u30 u31 d0 W5 hd5 t5 hwr5 hrun5
    refine hKr _ _ ?_
    clear hKr hKc
    have hL5 := hL3.keep t5 (fun hs => by have := hM _ hs; omega) (fun hs => by have := hM _ hs; omega) (fun hs => by have := hM _ hs; omega) (fun hs => by have := hM _ hs; omega)
    have hw5b : Turned (mineD Nd g) w W5 := (Turned.of_below hw3b (Nat.le_refl _)).trans t5 (fun _ h => .inl h)
    have hh5 : Held9 W5 N cs 110 := H.out.1.of_turned hw5b (fun hs => hNd _ hs rfl)
    have hz5 := t5.size
    have hrec := record_any N Nd m cs st W5 hh5 H.out.2.1 ⟨half, at_, gen, num⟩ t (by omega) hpg (by show num < 4294967296; omega)
    obtain ⟨L, hL⟩ : ∃ L, layP ⟨half, at_, gen, num⟩ t.data.toList = L := ⟨_, rfl⟩
    have hLl : L.length = secN t.size := by
      rw [← hL]
      unfold layP
      rw [List.length_map, List.length_range]
      rfl
    have hL64 : ∀ j, (L.getD j []).length ≤ 64 := fun j => by rw [← hL]; exact layP_get _ _ j
    have hs1 : 1 ≤ secN t.size := by unfold secN; omega
    rw [show (List.range (secN t.size)).map (pieceR (allR sumH gen num t.data.toList)) = L from hL] at hrec
    simp only [plV, plCells] at hrec
    have k53 := hL5.b3.cell
    have k540 := hL5.b4.cell 0
    have k541 := hL5.b4.cell 1
    have k542 := hL5.b4.cell 2
    have k543 := hL5.b4.cell 3
    simp only [plCells, List.getElem?_toArray, List.getElem?_cons_succ, List.getElem?_cons_zero] at k540 k541 k542 k543
    have P5 := Lib.hid (And.intro hL5 (And.intro hw5b (And.intro hh5 (And.intro hd5 (And.intro hrun5 (And.intro hL hL64))))))
    have P0 := Lib.hid (And.intro hB (And.intro hNd (And.intro hlost (And.intro hph hq))))
    have HM := Lib.hid hM
    have HLl := Lib.hid (And.intro hLl hs1)
    clear hLl hs1 hL5 hw5b hh5 hd5 hrun5 hL hL64 t5 hL3 hw3b hB hNd hlost hph hM k3 k71 kN hq
    --@r0
    gi_wp2_with fail
    --@r1
    refine ⟨trivial, ?_⟩
    refine (callsIn_wide.2 hrec).mono ?_
    rintro e w6 ⟨v6, cs6, rfl, own6, hh6, hc6, t6⟩
    clear hrec
    obtain ⟨hlen6, (⟨rfl, h0⟩ | ⟨g6, cap, cur, rfl, hbase, hcur, hcap, hcm, hcs6, htake⟩)⟩ := own6
    · have := HLl.out
      omega
    have hg6 : g6 < w6.heap.size := (Array.getElem?_eq_some_iff.1 hcur).1
    have hz6 := t6.size
    have hback := backw_any (some ⟨g6, 0, none⟩) L.length cap w6
    have P6 := Lib.hid (And.intro hh6 (And.intro hc6 (And.intro t6 (And.intro hcur htake))))
    clear hh6 hc6 t6 hcur htake hlen6 k53 k540 k541 k542 k543
    gi_wp2_with fail
    --@r2
    refine ⟨trivial, ?_⟩
    refine (callsIn_wide.2 hback).mono ?_
    rintro e w7 ⟨rfl, hw7⟩
    clear hback
    have hx7 : Boxed w7 w6.heap.size 113 (.slice (some ⟨g6, 0, none⟩) L.length cap) := by rw [hw7]; exact Boxed.new _ _ _
    have hz7 : w7.heap.size = w6.heap.size + 1 := by rw [hw7]; simp
    have tw7 : Turned (fun _ => False) w6 w7 := by rw [hw7]; exact Turned.of_below ((Below.refl _ w6).alloc (Nat.le_refl _) _) (Nat.le_refl _)
    clear hw7
    gi_wp2
    have hI0 : LayI B Nd g w6.heap.size (layA st ⟨half, at_, gen, num⟩) d0 w7 [] w7 := by
      obtain ⟨hL5, hw5b, hh5, hd5, hrun5, hL, hL64⟩ := P5.out
      obtain ⟨hh6, hc6, t6, hcur, htake⟩ := P6.out
      exact ⟨d0, rfl, (hd5.keep t6 fun b hb e => P0.out.2.1 b hb e).keep tw7 fun _ _ h => h, Turned.refl _ _⟩
    have hbsM : ¬ mineD Nd g w6.heap.size := fun h => by have := HM.out _ h; omega
    --@r3
    refine range_pre (n := 8) (by omega) (gf := 113) (lb := #[.pointer (some ⟨w6.heap.size, 0, none⟩)]) rfl (enters_of Tryz.func113 (by kernel_rfl) rfl)
      (encs := fun x : Nat × List UInt8 => #[.int .i64 (x.1 : Int), .string (textQ x.2)]) (R := fun pre x => ∃ rest, revJ L L.length = pre ++ x :: rest) (K := fun A B => B.heap[w6.heap.size]? = A.heap[w6.heap.size]? ∧ B.heap[g6]? = A.heap[g6]?)
      (S := fun ys => ys = revJ L L.length) (Sp := fun pre => ∃ rest, revJ L L.length = pre ++ rest) (bs := w6.heap.size) (by omega) ?seq
      (fun h k => ⟨k.1.trans h.1, k.2.trans h.2⟩) (fun W l o' hl => ⟨World.putObj_heap_other (by omega), World.putObj_heap_other (by omega)⟩) (fun _ => rfl)
      (LayI B Nd g w6.heap.size (layA st ⟨half, at_, gen, num⟩) d0 w7) (LayX B Nd g w6.heap.size (w.heap.size + 1 + 1) (layA st ⟨half, at_, gen, num⟩) d0 w7) (LayI.own (Nat.le_refl _)) (LayI.store hbsM) (LayX.own (Nat.le_refl _)) hI0
      (fun x => { tmps := #[.pointer (some ⟨N, 0, none⟩), .agg #[.int .i64 (half : Int), .int .i64 (at_ : Int), .int .u32 (gen : Int), .int .u32 (num : Int)], .string t, .pointer (some ⟨w.heap.size, 0, none⟩), .pointer (some ⟨w.heap.size + 1, 0, none⟩), undef, .pointer (some ⟨w.heap.size + 1 + 1, 0, none⟩), .pointer (some ⟨w2.heap.size, 0, none⟩), u8, .int .i64 (x.1 : Int), .string (textQ x.2), undef, .agg #[.int .i64 (half : Int), .int .i64 (at_ : Int), .int .u32 (gen : Int), .int .u32 (num : Int)], .string t, .int .i64 (t.size : Int), .agg #[.int .i64 (q.half : Int), .int .i64 (q.at_ : Int), .int .u32 (q.gen : Int), .int .u32 (q.num : Int)], .pointer (some ⟨w2.heap.size, 1, none⟩), .int .i64 (q.at_ : Int), .pointer (some ⟨N, 0, none⟩), .pointer (some ⟨N, 0, none⟩), .pointer (some ⟨N, 2, none⟩), .int .i64 (st.sz : Int), u22, u23, u24, u25, u26, u27, u28, u29, u30, u31, .pointer (some ⟨N, 0, none⟩), .agg #[.int .i64 (half : Int), .int .i64 (at_ : Int), .int .u32 (gen : Int), .int .u32 (num : Int)], .string t, .slice (some ⟨g6, 0, none⟩) L.length cap, .func (.func 113) #[] #[.pointer (some ⟨w6.heap.size, 0, none⟩)], .int .i64 (x.1 : Int), .string (textQ x.2), undef, undef, undef, undef, undef, undef, undef, undef, undef, undef, undef, undef, undef, undef, undef, undef], defers := [] }) ?assign ?body ?done ?stop
    case seq =>
      intro l J Jx W hW hJs hY h0
      obtain ⟨hh6, hc6, t6, hcur, htake⟩ := P6.out
      refine back_in 7 (by omega) l w6.heap.size g6 cap L (by have := HLl.out.1; omega) J Jx hY W ((hW.cell (p := ⟨w6.heap.size, 0, none⟩) (by simp; omega)).trans hx7.cell) (fun j hj => ?_) h0
      rw [hW.cell (p := ⟨g6, j, none⟩) (by simp; omega), Lib.cell_of_heap (tw7.heap hcur id)]
      have h1 : (cur.toList.take (L.length * 1))[j]? = some (.string (textQ (L.getD j []))) := by
        rw [htake, List.getElem?_map, List.getD_eq_getElem?_getD, List.getElem?_eq_getElem hj]
        rfl
      rw [List.getElem?_take] at h1
      split at h1
      · rw [Array.getElem?_toList] at h1
        exact h1
      · cases h1
    case assign =>
      intro l x W C hC
      gi_wp2
      exact hC
    case body =>
      rintro l pre x W ⟨d', hrun, hdk, htn⟩ ⟨rest, hx⟩
      obtain ⟨hL5, hw5b, hh5, hd5, hrun5, hL, hL64⟩ := P5.out
      obtain ⟨hh6, hc6, t6, hcur, htake⟩ := P6.out
      obtain ⟨hB, hNd, hlost, hph, hq⟩ := P0.out
      have hM := HM.out
      obtain ⟨hLl, hs1⟩ := HLl.out
      have hxm := revJ_mem L _ x (by rw [hx]; simp)
      have hx64 : x.2.length ≤ 64 := by rw [hxm.2]; exact hL64 _
      have hxl := hxm.1
      have hpl : pre.length ≤ L.length := by
        have := congrArg List.length hx
        rw [revJ_len] at this
        simp at this
        omega
      have hwr' := run_wr d0 _ hrun
      rw [List.length_map] at hwr'
      have tW : Turned (fun b => mineD Nd g b ∨ b = w6.heap.size) w6 W := (tw7.mono fun _ h => h.elim).trans htn fun _ h => .inl h
      have hhW : Held9 W N cs6 110 := hh6.of_turned tW (fun h => h.elim (fun e => hNd _ e rfl) (by omega))
      have hLW : LayAt w.heap.size w2.heap.size N ⟨half, at_, gen, num⟩ q (.int .i64 0) W := by
        have h6 := hL5.keep t6 (by omega) (by omega) (by omega) (by omega)
        exact h6.keep tW (fun h => h.elim (fun e => by have := hM _ e; omega) (by omega)) (fun h => h.elim (fun e => by have := hM _ e; omega) (by omega)) (fun h => h.elim (fun e => by have := hM _ e; omega) (by omega)) (fun h => h.elim (fun e => by have := hM _ e; omega) (by omega))
      have hzW := tW.size
      have hw := wwrite_any B N Nd g m cs6 st d' W hhW hc6 hdk (by omega) (by omega) half (at_ + x.1) hf hz hph (by omega) (textQ x.2) (by show x.2.length ≤ maxLen; unfold maxLen; omega)
      rw [hlost, show (textQ x.2).data.toList = x.2 from rfl, show ((at_ + x.1 : Nat) : Int) = (at_ : Int) + (x.1 : Int) by push_cast; rfl] at hw
      simp only [Bool.false_eq_true, if_false] at hw
      have hsn := run_snoc d0 (layA st ⟨half, at_, gen, num⟩ x) _ hrun
      have hk0 : IntKind.i64.wrap ((at_ : Int) + (x.1 : Int)) = (at_ : Int) + (x.1 : Int) := IntWalk.i64_in _ (by omega)
      obtain ⟨Y, hY⟩ : ∃ Y : ByteArray, textQ x.2 = Y := ⟨_, rfl⟩
      obtain ⟨code, hcode⟩ : ∃ code, sayD d' ((st.fr + half * st.sz + (at_ + x.1) : Nat) : Int) x.2 = code := ⟨_, rfl⟩
      have k3 := hLW.b3.cell
      have k40 := hLW.b4.cell 0
      have k41 := hLW.b4.cell 1
      simp only [plCells, List.getElem?_toArray, List.getElem?_cons_succ, List.getElem?_cons_zero] at k40 k41
      rw [hcode, hY] at hw
      rw [hY]
      have S0 := Lib.hid (And.intro hsn (And.intro hdk (And.intro htn (And.intro hcode (And.intro hLW (And.intro hM hNd))))))
      clear hsn hdk htn hcode hLW hM hNd hhW tW hL5 hw5b hh5 hd5 hrun5 hL hL64 hh6 hc6 t6 hcur htake hB hlost hph hq hxm hx64 hpl hwr' hrun hx hY hLl hs1 hI0 hbsM hx7 tw7
      --@b0
      gi_wp2_with fail
      --@b1
      refine ⟨trivial, ?_⟩
      refine (CallsIn.inRound l (callsIn_wide.2 hw)).mono ?_
      rintro e W2 ⟨rfl, hd2, t2⟩
      clear hw
      obtain ⟨hsn, hdk, htn, hcode, hLW, hM, hNd⟩ := S0.out
      have hL2 := hLW.keep t2 (fun hs => by have := hM _ hs; omega) (fun hs => by have := hM _ hs; omega) (fun hs => by have := hM _ hs; omega) (fun hs => by have := hM _ hs; omega)
      have k56 := hL2.b6.cell
      have f56 := hL2.b6.frozen
      have S2 := Lib.hid (And.intro hL2 (And.intro hd2 t2))
      have hzW := htn.size
      clear hsn hdk htn hcode hLW hM hNd hL2 hd2 t2
      by_cases hc0 : code = 0
      · have hdn : decide (code = 0) = true := by rw [decide_eq_true_eq]; exact hc0
        subst hc0
        gi_wp2_with fail
        --@b2
        obtain ⟨hsn, hdk, htn, hcode, hLW, hM, hNd⟩ := S0.out
        obtain ⟨hL2, hd2, t2⟩ := S2.out
        refine ⟨keeps_turned t2 fun b hb => .inr (hdk.cellsOf b hb), ⟨t2.block _ (by omega) fun e => by have := hM _ e; omega, t2.block _ (by omega) fun e => by have := hM _ e; omega⟩, _, ?_, hd2, htn.trans t2 fun b hb => .inl (.inl hb)⟩
        rw [List.map_append, List.map_cons, List.map_nil, hsn]
        unfold layA
        rw [hcode]
      · have hdn : decide (code = 0) = false := by rw [decide_eq_false_iff_not]; exact hc0
        gi_wp2_with fail
        --@b3
        obtain ⟨hsn, hdk, htn, hcode, hLW, hM, hNd⟩ := S0.out
        obtain ⟨hL2, hd2, t2⟩ := S2.out
        have tb : Turned (fun b => b = w.heap.size + 1 + 1) W2 (W2.setCell ⟨w.heap.size + 1 + 1, 0, none⟩ (.int .i64 code)) := Turned.set rfl
        refine ⟨(keeps_turned t2 fun b hb => .inr (hdk.cellsOf b hb)).trans (KeepsOthers.setCell _ _ _), rfl, _, code, hc0, ?_, hd2.keep tb fun b hb e => by have := hM _ hb; omega, ((htn.mono (T := fun b => mineD Nd g b ∨ b = w6.heap.size ∨ b = w.heap.size + 1 + 1) fun b h => h.elim .inl fun e => .inr (.inl e)).trans t2 fun b h => .inl (.inl h)).trans tb fun b h => .inl (.inr (.inr h)), hL2.b6.set _⟩
        rw [List.map_append, List.map_cons, List.map_nil, hsn]
        unfold layA
        rw [hcode]
    case done =>
      rintro D ys W hD rfl ⟨d', hrun, hdk, htn⟩ hK
      have hzW := htn.size
      obtain ⟨hL5, hw5b, hh5, hd5, hrun5, hL, hL64⟩ := P5.out
      obtain ⟨hh6, hc6, t6, hcur, htake⟩ := P6.out
      obtain ⟨hB, hNd, hlost, hph, hq⟩ := P0.out
      have hM := HM.out
      have tW : Turned (fun b => mineD Nd g b ∨ b = w6.heap.size) w6 W := (tw7.mono fun _ h => h.elim).trans htn fun _ h => .inl h
      have hhW : Held9 W N cs6 110 := hh6.of_turned tW (fun h => h.elim (fun e => hNd _ e rfl) (by omega))
      have hLW : LayAt w.heap.size w2.heap.size N ⟨half, at_, gen, num⟩ q (.int .i64 0) W := by
        have h6 := hL5.keep t6 (by omega) (by omega) (by omega) (by omega)
        exact h6.keep tW (fun h => h.elim (fun e => by have := hM _ e; omega) (by omega)) (fun h => h.elim (fun e => by have := hM _ e; omega) (by omega)) (fun h => h.elim (fun e => by have := hM _ e; omega) (by omega)) (fun h => h.elim (fun e => by have := hM _ e; omega) (by omega))
      have k3 := hLW.b3.cell
      have k6 := hLW.b6.cell
      have f6 := hLW.b6.frozen
      have k70 := hLW.b7.cell 0
      have k71 := hLW.b7.cell 1
      have k72 := hLW.b7.cell 2
      have k73 := hLW.b7.cell 3
      simp only [plCells, List.getElem?_toArray, List.getElem?_cons_succ, List.getElem?_cons_zero] at k70 k71 k72 k73
      have n3 := hhW.cell 3
      have n4 := hhW.cell 4
      have n5 := hhW.cell 5
      have n6 := hhW.cell 6
      rw [hc6.c3] at n3
      rw [hc6.c4] at n4
      rw [hc6.c5] at n5
      rw [hc6.c6] at n6
      have fN := hhW.frozen
      have S0 := Lib.hid (And.intro hrun (And.intro hdk (And.intro tW (And.intro hhW (And.intro hLW hK)))))
      clear hL5 hw5b hh5 hd5 hrun5 hL hL64 hh6 hc6 t6 hcur htake hB hNd hlost hph hq hM tW hhW hLW hK hrun hdk htn hI0 hbsM hx7 tw7
      gi_wp2_with fail
      --@d1
      obtain ⟨hrun, hdk, tW, hhW, hLW, hK⟩ := S0.out
      obtain ⟨hL5, hw5b, hh5, hd5, hrun5, hL, hL64⟩ := P5.out
      obtain ⟨hh6, hc6, t6, hcur, htake⟩ := P6.out
      obtain ⟨hB, hNd, hlost, hph, hq⟩ := P0.out
      have hM := HM.out
      have tN : Turned (fun b => b = N) W ((((W.setCell ⟨N, 3, none⟩ (.int .i64 (q.half : Int))).setCell ⟨N, 4, none⟩ (.int .i64 (q.at_ : Int))).setCell ⟨N, 5, none⟩ (.int .u32 (q.gen : Int))).setCell ⟨N, 6, none⟩ (.int .u32 (q.num : Int))) := ((((Turned.refl (fun b => b = N) W).set' rfl).set' rfl).set' rfl).set' rfl
      have hhN := (((hhW.set 3 (.int .i64 (q.half : Int))).set 4 (.int .i64 (q.at_ : Int))).set 5 (.int .u32 (q.gen : Int))).set 6 (.int .u32 (q.num : Int))
      obtain ⟨W1, hW1⟩ : ∃ W1, ((((W.setCell ⟨N, 3, none⟩ (.int .i64 (q.half : Int))).setCell ⟨N, 4, none⟩ (.int .i64 (q.at_ : Int))).setCell ⟨N, 5, none⟩ (.int .u32 (q.gen : Int))).setCell ⟨N, 6, none⟩ (.int .u32 (q.num : Int))) = W1 := ⟨_, rfl⟩
      rw [hW1] at tN hhN ⊢
      have b1 : Boxed W1 (w.heap.size + 1 + 1) 36 (.int .i64 0) := tN.heap hLW.b6 (by omega)
      have tR : Turned (fun b => b = w.heap.size + 1 + 1) W1 (W1.setCell ⟨w.heap.size + 1 + 1, 0, none⟩ (.int .i64 0)) := Turned.set rfl
      have hK2 : (W1.setCell ⟨w.heap.size + 1 + 1, 0, none⟩ (.int .i64 0)).heap[D]? = some (.deferred (some [])) := tR.heap (tN.heap hK (by omega)) (by omega)
      have tP : Turned (fun b => b = D) (W1.setCell ⟨w.heap.size + 1 + 1, 0, none⟩ (.int .i64 0)) ((W1.setCell ⟨w.heap.size + 1 + 1, 0, none⟩ (.int .i64 0)).putObj D (.deferred none)) := Turned.of_grown (grownBy_putObj' _ D _) fun k e => .inl (by cases e; rfl)
      have kr := Boxed.cell (tP.heap (b1.set (.int .i64 0)) (by omega))
      have tNR : Turned (fun b => b = N ∨ w7.heap.size ≤ b ∨ b = w.heap.size + 1 + 1) W ((W1.setCell ⟨w.heap.size + 1 + 1, 0, none⟩ (.int .i64 0)).putObj D (.deferred none)) :=
        ((tN.mono fun b h => .inl h).trans tR fun b h => .inl (.inr (.inr h))).trans tP fun b h => .inl (.inr (.inl (by omega)))
      refine ⟨by simp, .inl ⟨_, _, rfl, run_takeDeferred hK2, ?_⟩⟩
      refine ⟨.int .i64 0, by simp [results, Tryz.f65, go_sem, kr], d', 0, _, rfl, ?_, hdk.keep tNR fun b hb e => ?_, (hhN.of_turned tR (by omega)).of_turned tP (by omega), ?_, ?_⟩
      · unfold layL
        rw [show t.data.toList.length = t.size from rfl, run_app d _ _ hrun5, hL]
        exact hrun
      · have := hM b hb
        have := hNd b hb
        omega
      · unfold layS
        rw [if_pos rfl, hq]
        exact hc6.setPl q
      · refine Turned.trans (S := fun b => b = N ∨ mineD Nd g b) (Turned.trans (Turned.trans (hw5b.mono fun b h => .inr h) t6 fun b h => .inl (.inl h)) tW fun b h => h.elim (fun e => .inl (.inr e)) fun e => .inr (by omega)) tNR fun b h => ?_
        rcases h with h | h | h
        · exact .inl (.inl h)
        · exact .inr (by omega)
        · exact .inr (by omega)
    case stop =>
      rintro D c pre W hD ⟨rest, hx⟩ ⟨rfl, d', code, hc0, hrun, hdk, htn, hb6⟩ hK
      --@s1
      have hzW := htn.size
      have hb6' := Lib.hid hb6
      have S0 := Lib.hid (And.intro hrun (And.intro hdk (And.intro htn (And.intro hx hK))))
      clear hb6 hrun hdk htn hx hK hI0 hbsM hx7
      gi_wp2
      obtain ⟨hrun, hdk, htn, hx, hK⟩ := S0.out
      obtain ⟨hL5, hw5b, hh5, hd5, hrun5, hL, hL64⟩ := P5.out
      obtain ⟨hh6, hc6, t6, hcur, htake⟩ := P6.out
      obtain ⟨hB, hNd, hlost, hph, hq⟩ := P0.out
      have hM := HM.out
      have tP : Turned (fun b => b = D) W (W.putObj D (.deferred none)) := Turned.of_grown (grownBy_putObj' _ D _) fun k e => .inl (by cases e; rfl)
      have kr := Boxed.cell (tP.heap hb6'.out (by omega))
      have tW : Turned (fun b => mineD Nd g b ∨ b = w6.heap.size ∨ b = w.heap.size + 1 + 1) w6 W := (tw7.mono fun _ h => h.elim).trans htn fun _ h => .inl h
      refine ⟨by simp, .inl ⟨_, _, rfl, run_takeDeferred hK, ?_⟩⟩
      refine ⟨.int .i64 code, by simp [results, Tryz.f65, go_sem, kr], d', code, cs6, rfl, ?_, hdk.keep tP fun b hb e => ?_, (hh6.of_turned tW (fun h => h.elim (fun e => hNd _ e rfl) (by omega))).of_turned tP (by omega), ?_, ?_⟩
      · unfold layL
        rw [show t.data.toList.length = t.size from rfl, run_app d _ _ hrun5, hL, hx, List.map_append]
        exact run_dead _ _ _ hrun hc0
      · have := hM b hb
        omega
      · unfold layS
        rw [if_neg hc0]
        exact hc6
      · refine Turned.trans (S := fun b => b = N ∨ mineD Nd g b) (Turned.trans (Turned.trans (hw5b.mono fun b h => .inr h) t6 fun b h => .inl (.inl h)) tW fun b h => h.elim (fun e => .inl (.inr e)) fun e => .inr (by omega)) tP fun b h => .inr (by omega)
  clear hKr
  refine hKc _ _ ?_
  clear hKc
  have Hrest := Lib.hid hrest
  clear hrest
  have tq : Turned (mineD Nd g) w3 (w3.drewN nq) := Turned.of_below (below_drewN (Below.refl w3.heap.size w3) nq) (Nat.le_refl _)
  have hnq := below_drewN (Below.refl w3.heap.size w3) nq
  obtain ⟨w4, hw4⟩ : ∃ w4, w3.drewN nq = w4 := ⟨_, rfl⟩
  rw [hw4] at tq hnq ⊢
  clear hw4
  have tq0 : Turned (fun _ => False) w3 w4 := Turned.of_below hnq (Nat.le_refl _)
  by_cases hqa : q.at_ < st.sz
  · have hw := wwrite_any B N Nd g m cs st d w4 ((H.out.1.below hw3b hlt).of_turned tq (fun hs => hNd _ hs rfl)) H.out.2.1 ((H.out.2.2.below hw3b).keep (S := fun _ => False) (Turned.of_below hnq (Nat.le_refl _)) (fun _ _ h => h)) (by have := hw3b.size; have := hnq.size; omega) (by omega) half q.at_ hf hz hph (by omega) ⟨#[]⟩ (by decide)
    have hL4 := hL3.keep tq (fun hs => by have := hM _ hs; omega) (fun hs => by have := hM _ hs; omega) (fun hs => by have := hM _ hs; omega) (fun hs => by have := hM _ hs; omega)
    have k43 := hL4.b3.cell
    have k440 := hL4.b4.cell 0
    have k471 := hL4.b7.cell 1
    simp only [plCells, List.getElem?_toArray, List.getElem?_cons_succ, List.getElem?_cons_zero] at k440 k471
    obtain ⟨dd, hdd⟩ : ∃ dd, (⟨#[]⟩ : ByteArray).data.toList = dd := ⟨_, rfl⟩
    rw [hlost, hdd] at hw
    simp only [Bool.false_eq_true, if_false] at hw
    have hdq : decide (q.at_ < st.sz) = true := by rw [decide_eq_true_eq]; exact hqa
    have Hp := Lib.hid (And.intro hL3 (And.intro hL4 (And.intro tq (And.intro hw3b hqa))))
    have Hm := Lib.hid (And.intro hdd (And.intro hwr (And.intro hNd hM)))
    clear hL3 hL4 tq tq0 hnq hw3b hdd hlost k3 k71 kN hz3 hwr hf hz hph hpa hpg hpn ht hsn hNd hB hlt hM
    --@d0
    gi_wp2_with fail
    --@d1
    refine ⟨trivial, ?_⟩
    refine (callsIn_wide.2 hw).mono ?_
    rintro e w5 ⟨rfl, hd5, t5⟩
    clear hw
    have hM := Hm.out.2.2.2
    have hL5 := Hp.out.2.1.keep t5 (fun hs => by have := hM _ hs; omega) (fun hs => by have := hM _ hs; omega) (fun hs => by have := hM _ hs; omega) (fun hs => by have := hM _ hs; omega)
    obtain ⟨code, hcode⟩ : ∃ code, sayD d ((st.fr + half * st.sz + q.at_ : Nat) : Int) dd = code := ⟨_, rfl⟩
    rw [hcode]
    have k56 := hL5.b6.cell
    have f56 := hL5.b6.frozen
    clear hM
    have Hcode := Lib.hid hcode
    clear hcode
    by_cases hc0 : code = 0
    · have hdn : decide (code = 0) = true := by rw [decide_eq_true_eq]; exact hc0
      subst hc0
      have HL5 := Lib.hid (And.intro hL5 (And.intro t5 hd5))
      clear hL5 t5 hd5
      gi_wp2_with fail
      --@hd
      obtain ⟨hL3, hL4, tq, hw3b, hqa⟩ := Hp.out
      obtain ⟨hL5, t5, hd5⟩ := HL5.out
      obtain ⟨hdd, hwr, hNd, hM⟩ := Hm.out
      have hcc := Hcode.out
      rw [← hdd] at hcc
      refine Hrest.out _ _ _ _ _ _ _ _ _ _ _ _ w5 hd5 (tq.trans t5 fun _ h => .inl h) ?_ ?_
      · have := write_wr d ((st.fr + half * st.sz + q.at_ : Nat) : Int) dd
        omega
      · unfold layE
        simp only
        rw [if_pos (by rw [← hq] at hqa; exact hqa), runD, runD]
        simp only
        rw [show at_ + secN t.size = q.at_ by rw [← hq]; rfl, ← hdd, if_pos hcc]
    · have hdn : decide (code = 0) = false := by rw [decide_eq_false_iff_not]; exact hc0
      have HL5 := Lib.hid (And.intro hL5 (And.intro t5 hd5))
      clear hL5 t5 hd5
      gi_wp2_with fail
      --@he
      obtain ⟨hL3, hL4, tq, hw3b, hqa⟩ := Hp.out
      obtain ⟨hL5, t5, hd5⟩ := HL5.out
      obtain ⟨hdd, hwr, hNd, hM⟩ := Hm.out
      have hcc := Hcode.out
      rw [← hdd] at hcc
      have ta : Turned (mineD Nd g) w w5 := (Turned.of_below hw3b (Nat.le_refl _)).trans (tq.trans t5 fun _ h => .inl h) fun _ h => .inl h
      have tb : Turned (fun b => b = w.heap.size + 1 + 1) w5 (w5.setCell ⟨w.heap.size + 1 + 1, 0, none⟩ (.int .i64 code)) := Turned.set rfl
      have kr := (hL5.b6.set (.int .i64 code)).cell
      refine ⟨.int .i64 code, by simp [results, Tryz.f65, go_sem, kr], _, code, cs, rfl, ?_, hd5.keep tb fun b hb e => ?_, H.out.1.of_turned (ta.trans tb fun b e => .inr (by omega)) (fun hs => hNd _ hs rfl), ?_, (ta.mono fun b h => .inr h).trans tb fun b e => .inr (by omega)⟩
      · unfold layL
        refine run_dead d _ _ ?_ hc0
        unfold layE
        simp only
        rw [show t.data.toList.length = t.size from rfl, if_pos (by rw [← hq] at hqa; exact hqa), runD]
        simp only
        rw [show at_ + secN t.size = q.at_ by rw [← hq]; rfl, ← hdd, if_neg (by rw [hcc]; exact hc0), hcc]
      · have := hM b hb
        omega
      · unfold layS
        rw [if_neg hc0]
        exact H.out.2.1
  · have hdq : decide (q.at_ < st.sz) = false := by rw [decide_eq_false_iff_not]; exact hqa
    --@f0
    have Hp := Lib.hid (And.intro hL3 (And.intro tq (And.intro hw3b hqa)))
    clear hL3 tq hw3b hnq hlost k3 k71 kN hz3 hf hz hph hpa hpg hpn ht hsn hNd hB hlt
    gi_wp2_with fail
    --@f
    obtain ⟨hL3, tq, hw3b, hqa⟩ := Hp.out
    refine Hrest.out _ _ _ _ _ _ _ _ _ _ _ d w4 ((H.out.2.2.below hw3b).keep tq0 (fun _ _ h => h)) tq (by omega) ?_
    unfold layE
    simp only
    rw [if_neg (by rw [← hq] at hqa; exact hqa), runD]
end Go.Proofs.YtgpdplffljidbaaGreatDoor
