/-
  The document's answer of layer 13: a part, with its parts.
-/
import Derived.Test.YtidlpdiephlkhaaGreatDoorT38
import Derived.Test.YtidlpdiephlkhaaGreatDoorTR13D
import Derived.Test.YtidlpdiephlkhaaGreatDoorTR10G
import Derived.Test.YtidlpdiephlkhaaGreatDoorT37
import Derived.Test.YtidlpdiephlkhaaGreatDoorTR12F
import Derived.Test.YtidlpdiephlkhaaGreatDoorTR3F
import Derived.Test.YtidlpdiephlkhaaGreatDoorT31
namespace Go.Proofs.YtidlpdiephlkhaaGreatDoor
open Go.RowKit

/-- What a part comes to: it, how many there are then, the error. -/
def PartPost13 (r : TreeM × Nat × Int) (w : World) (e : Ending) (w' : World) : Prop :=
  ∃ fv pv rv, e = .returned (.tuple #[partV r.1 fv pv rv, .int .i64 (r.2.1 : Int), .int .i64 r.2.2]) ∧ TreeP w' (fun g => w.heap.size ≤ g) r.1 fv pv rv ∧ Below w.heap.size w w'
/-- The result's block, and the part's. -/
structure PtK (w : World) (N : Nat) (fv X Y pv D rv : Value) (fs : List FieldH) (ps : List ParC) (W : World) : Prop where
  b : Below w.heap.size w W
  n : w.heap.size < N
  p6 : PrtAt W w.heap.size (.slice none 0 0) (.string ⟨#[]⟩) (.string ⟨#[]⟩) (.slice none 0 0) (.string ⟨#[]⟩) (.slice none 0 0)
  p12 : PrtAt W N fv X Y pv D rv
  ff : FieldsP W (fun g => w.heap.size < g ∧ g ≠ N) fv fs
  pp : ParsP W (fun g => w.heap.size < g ∧ g ≠ N) pv ps
section
variable {w W W' : World} {N : Nat} {fv X Y pv D rv : Value} {fs : List FieldH} {ps : List ParC}
theorem PtK.step (h : PtK w N fv X Y pv D rv fs ps W) (k : Below W.heap.size W W') : PtK w N fv X Y pv D rv fs ps W' :=
  ⟨h.b.trans (k.mono h.b.size), h.n, h.p6.below k, h.p12.below k, h.ff.to (stay_all k), h.pp.to (stay_all k)⟩
theorem PtK.body (h : PtK w N fv X Y pv D rv fs ps W) (D' : Value) : PtK w N fv X Y pv D' rv fs ps (W.setCell ⟨N, 4, none⟩ D') :=
  ⟨h.b.setCell (p := ⟨N, 4, none⟩) (Nat.le_of_lt h.n) _, h.n, (Below.heap_setCell W ⟨N, 4, none⟩ D' w.heap.size (by have := h.n; show w.heap.size ≠ N; omega)).trans h.p6, h.p12.body D', h.ff.to (stay_set (fun _ hg => hg.2) D'), h.pp.to (stay_set (fun _ hg => hg.2) D')⟩
theorem PtK.main (h : PtK w N fv X Y pv D rv fs ps W) (X' : Value) : PtK w N fv X' Y pv D rv fs ps (W.setCell ⟨N, 1, none⟩ X') :=
  ⟨h.b.setCell (p := ⟨N, 1, none⟩) (Nat.le_of_lt h.n) _, h.n, (Below.heap_setCell W ⟨N, 1, none⟩ X' w.heap.size (by have := h.n; show w.heap.size ≠ N; omega)).trans h.p6, by
    have := h.p12
    unfold PrtAt at this ⊢
    rw [heap_setCell_same W N 1 _ _ X' this]
    rfl, h.ff.to (stay_set (fun _ hg => hg.2) X'), h.pp.to (stay_set (fun _ hg => hg.2) X')⟩
theorem PtK.sub (h : PtK w N fv X Y pv D rv fs ps W) (Y' : Value) : PtK w N fv X Y' pv D rv fs ps (W.setCell ⟨N, 2, none⟩ Y') :=
  ⟨h.b.setCell (p := ⟨N, 2, none⟩) (Nat.le_of_lt h.n) _, h.n, (Below.heap_setCell W ⟨N, 2, none⟩ Y' w.heap.size (by have := h.n; show w.heap.size ≠ N; omega)).trans h.p6, by
    have := h.p12
    unfold PrtAt at this ⊢
    rw [heap_setCell_same W N 2 _ _ Y' this]
    rfl, h.ff.to (stay_set (fun _ hg => hg.2) Y'), h.pp.to (stay_set (fun _ hg => hg.2) Y')⟩
theorem PtK.pars (h : PtK w N fv X Y pv D rv fs ps W) (pv' : Value) (ps' : List ParC) (hp : ParsP W (fun g => w.heap.size < g ∧ g ≠ N) pv' ps') : PtK w N fv X Y pv' D rv fs ps' (W.setCell ⟨N, 3, none⟩ pv') :=
  ⟨h.b.setCell (p := ⟨N, 3, none⟩) (Nat.le_of_lt h.n) _, h.n, (Below.heap_setCell W ⟨N, 3, none⟩ pv' w.heap.size (by have := h.n; show w.heap.size ≠ N; omega)).trans h.p6, h.p12.pars pv', h.ff.to (stay_set (fun _ hg => hg.2) pv'), hp.to (stay_set (fun _ hg => hg.2) pv')⟩
theorem bad13 {R : TreeM × Nat × Int} {cnt : Nat} {c : Int} (hb : Below w.heap.size w W) (hR : R = (nilM, cnt, c)) : PartPost13 R w (.returned (.tuple #[.agg #[.slice none 0 0, .string ⟨#[]⟩, .string ⟨#[]⟩, .slice none 0 0, .string ⟨#[]⟩, .slice none 0 0], .int .i64 (cnt : Int), .int .i64 c])) (putP W w.heap.size (.slice none 0 0) (.string ⟨#[]⟩) (.string ⟨#[]⟩) (.slice none 0 0) (.string ⟨#[]⟩) (.slice none 0 0)) := by
  rw [hR]
  exact ⟨.slice none 0 0, .slice none 0 0, .slice none 0 0, rfl, TreeP.nil _ _, below_putP hb (Nat.le_refl _) (.slice none 0 0) (.string ⟨#[]⟩) (.string ⟨#[]⟩) (.slice none 0 0) (.string ⟨#[]⟩) (.slice none 0 0)⟩
theorem PtK.good {R : TreeM × Nat × Int} {cnt : Nat} {p : TreeM} {XB YB DB : ByteArray} (h : PtK w N fv (.string XB) (.string YB) pv (.string DB) rv fs ps W) (hr : PartsP W (fun g => w.heap.size < g ∧ g ≠ N) rv p.parts) (h1 : textQ p.typ.1 = XB) (h2 : textQ p.typ.2.1 = YB) (h3 : textQ p.body = DB) (h4 : p.fields = fs) (h5 : p.typ.2.2 = ps) (hR : R = (p, cnt, 0)) :
    PartPost13 R w (.returned (.tuple #[.agg #[fv, .string XB, .string YB, pv, .string DB, rv], .int .i64 (cnt : Int), .int .i64 0])) (putP W w.heap.size fv (.string XB) (.string YB) pv (.string DB) rv) := by
  have hs : StayP W (fun g => w.heap.size < g ∧ g ≠ N) (putP W w.heap.size fv (.string XB) (.string YB) pv (.string DB) rv) (fun g => w.heap.size ≤ g) := fun g hg _ => ⟨by omega, fun j => cell_block (putP_block (by omega) fv (.string XB) (.string YB) pv (.string DB) rv)⟩
  rw [hR]
  refine ⟨fv, pv, rv, by rw [← h1, ← h2, ← h3]; rfl, ⟨?_, ?_, hr.to hs⟩, below_putP h.b (Nat.le_refl _) fv (.string XB) (.string YB) pv (.string DB) rv⟩
  · rw [h4]
    exact h.ff.to hs
  · rw [h5]
    exact h.pp.to hs
end
theorem ct_low : ([99, 111, 110, 116, 101, 110, 116, 45, 116, 121, 112, 101] : TextH).map lowH = ctM.map lowH := by decide
theorem TextsOwn.cellsT {w : World} {B : Nat} {ao : Option Addr} {nn cap : Nat} {l : List TextH} (h : TextsOwn w B (.slice ao nn cap) l) : nn = l.length ∧ nn ≤ cap ∧ cap ≤ maxLen ∧ (l ≠ [] → ∃ g, ao = some ⟨g, 0, none⟩ ∧ B ≤ g ∧ g < w.heap.size ∧ ∀ i (hi : i < l.length), w.cell? ⟨g, i, none⟩ = some (.string (textQ l[i]))) := by
  obtain ⟨_, h2⟩ := h
  rcases h2 with ⟨e, h0⟩ | ⟨g, cap2, cur, e, hg, hb, hc, hm, hs, ht⟩
  · cases e
    exact ⟨h0.symm, Nat.le_refl _, by simp [maxLen], fun hne => absurd (List.eq_nil_of_length_eq_zero h0) hne⟩
  · cases e
    refine ⟨rfl, hc, hm, fun _ => ⟨g, rfl, hg, heap_lt hb, fun i hi => ?_⟩⟩
    rw [Lib.cell_of_heap hb i]
    have hx : ((textsF l).map Value.string)[i]? = some (.string (textQ l[i])) := by
      unfold textsF
      rw [List.getElem?_map, List.getElem?_map, List.getElem?_eq_getElem hi]
      rfl
    rw [← hx, ← ht, List.getElem?_take_of_lt (by omega)]
    simp
theorem divtext_memP {mk t : TextH} : ∀ {l : List TextH}, t ∈ l → t.length ≤ (divTextM mk l).length
  | u :: l, h => by
    unfold divTextM
    simp only [List.length_append, List.length_cons]
    rcases List.mem_cons.1 h with rfl | h
    · omega
    · have := divtext_memP (mk := mk) h
      omega
theorem div_memP {mk raw : TextH} {l : List TextH} (h : divM mk raw = some l) {t : TextH} (ht : t ∈ l) : t.length ≤ raw.length := by
  unfold divM at h
  split at h
  · rename_i hp
    obtain ⟨u, hu⟩ := List.isPrefixOf_iff_prefix.1 hp
    have hd : raw.drop mk.length = u := by rw [← hu]; exact List.drop_left
    rw [hd] at h
    cases hn : nextM mk u with
    | none =>
      rw [hn] at h
      cases h
    | some x =>
      rw [hn] at h
      have e := (divn_some _ _ _ h).1
      have := divtext_memP (mk := mk) ht
      rw [← e, hu] at this
      exact this
  · cases h
theorem cod_ways (l : List FieldH) : codM l = 0 ∨ codM l = 1 ∨ codM l = 2 ∨ codM l = 3 := by
  unfold codM
  cases getH l cteM with
  | none => exact .inl rfl
  | some c =>
    simp only
    split
    · exact .inl rfl
    · split
      · exact .inr (.inl rfl)
      · split
        · exact .inr (.inr (.inl rfl))
        · exact .inr (.inr (.inr rfl))

/-- What lies there between two texts of a multipart. -/
structure PtL (w : World) (N B0 bT : Nat) (fv X Y pv D rv : Value) (fs : List FieldH) (ps : List ParC) (l : List TextH) (acc : List KidM) (W : World) : Prop where
  b : Below w.heap.size w W
  n : w.heap.size < N ∧ N < B0 ∧ bT < B0 ∧ w.heap.size < bT ∧ bT ≠ N ∧ B0 ≤ W.heap.size
  p6 : PrtAt W w.heap.size (.slice none 0 0) (.string ⟨#[]⟩) (.string ⟨#[]⟩) (.slice none 0 0) (.string ⟨#[]⟩) (.slice none 0 0)
  p12 : PrtAt W N fv X Y pv D rv
  ff : FieldsP W (fun g => w.heap.size < g ∧ g ≠ N ∧ g < B0) fv fs
  pp : ParsP W (fun g => w.heap.size < g ∧ g ≠ N ∧ g < B0) pv ps
  own : PartsOwn W B0 rv acc
  kids : KidsP W (fun g => B0 ≤ g ∧ rv.ownBlock ≠ some g) acc
  tx : ∀ i (h : i < l.length), W.cell? ⟨bT, i, none⟩ = some (.string (textQ l[i]))
section
variable {w W W' : World} {N B0 bT : Nat} {fv X Y pv D rv : Value} {fs : List FieldH} {ps : List ParC} {l : List TextH} {acc : List KidM}
theorem PtL.step (h : PtL w N B0 bT fv X Y pv D rv fs ps l acc W) (k : Below W.heap.size W W') : PtL w N B0 bT fv X Y pv D rv fs ps l acc W' := by
  have hn := h.n
  have hz := k.size
  exact ⟨h.b.trans (k.mono h.b.size), ⟨hn.1, hn.2.1, hn.2.2.1, hn.2.2.2.1, hn.2.2.2.2.1, by omega⟩, h.p6.below k, h.p12.below k, h.ff.to (stay_all k), h.pp.to (stay_all k), ⟨h.own.1, h.own.2.imp id fun ⟨g, cap, cur, h1, h2, h3, h4⟩ => ⟨g, cap, cur, h1, h2, (k.block g (heap_lt h3)).trans h3, h4⟩⟩, h.kids.to (stay_all k), fun i hi => (k.cell (p := ⟨bT, i, none⟩) (by show bT < W.heap.size; omega)).trans (h.tx i hi)⟩
theorem PtL.app (h : PtL w N B0 bT fv X Y pv D rv fs ps l acc W) {x : KidM} (hx : TreeP W (fun g => B0 ≤ g ∧ rv.ownBlock ≠ some g) x.1 x.2.1 x.2.2.1 x.2.2.2) {v' : Value} (ho : PartsOwn W' B0 v' (acc ++ [x])) (hg : W.grownBy W' rv.ownBlock) (hv : v'.ownBlock = rv.ownBlock ∨ v'.ownBlock = some W.heap.size) :
    PrtAt W' N fv X Y pv D rv ∧ PtL w N B0 bT fv X Y pv D v' fs ps l (acc ++ [x]) (W'.setCell ⟨N, 5, none⟩ v') := by
  obtain ⟨b, n, p6, p12, ff, pp, own, kids, tx⟩ := h
  have hlt := own.lt
  have hno : ∀ g, g < B0 → rv.ownBlock ≠ some g := fun g hg e => by have := (hlt g e).1; omega
  have hb : ∀ g, g < B0 → g < W.heap.size → W'.heap[g]? = W.heap[g]? := fun g h1 h2 => hg.block g h2 (fun e => hno g h1 e.symm)
  have hkids : KidsP W (fun g => B0 ≤ g ∧ rv.ownBlock ≠ some g) (acc ++ [x]) := fun y hy => by
    rcases List.mem_append.1 hy with hy | hy
    · exact kids y hy
    · obtain rfl := List.mem_singleton.1 hy
      exact hx
  have p12' : PrtAt W' N fv X Y pv D rv := (hb N (by omega) p12.lt).trans p12
  have hs : ∀ g, g ≠ N → (W'.setCell ⟨N, 5, none⟩ v').heap[g]? = W'.heap[g]? := fun g hne => Below.heap_setCell W' ⟨N, 5, none⟩ v' g hne
  have hbs : ∀ g, g < B0 → g ≠ N → g < W.heap.size → (W'.setCell ⟨N, 5, none⟩ v').heap[g]? = W.heap[g]? := fun g h1 h2 h3 => (hs g h2).trans (hb g h1 h3)
  have hz : (W'.setCell ⟨N, 5, none⟩ v').heap.size = W'.heap.size := by simp [World.setCell]
  have hgz := hg.size
  refine ⟨p12', ?_, ⟨n.1, n.2.1, n.2.2.1, n.2.2.2.1, n.2.2.2.2.1, by rw [hz]; omega⟩, ?_, p12'.parts v', ?_, ?_, ?_, ?_, ?_⟩
  · have b8 : Below w.heap.size w W' := b.grown hg b.size (fun k hk => by have := (hlt k hk).1; omega)
    exact b8.setCell (p := ⟨N, 5, none⟩) (Nat.le_of_lt n.1) _
  · exact (hbs w.heap.size (by omega) (by omega) p6.lt).trans p6
  · exact ff.to fun g hg hl => ⟨hg, fun j => cell_block (hbs g (by omega) (by omega) hl)⟩
  · exact pp.to fun g hg hl => ⟨hg, fun j => cell_block (hbs g (by omega) (by omega) hl)⟩
  · exact ownsRow_setCell_below ho (a := ⟨N, 5, none⟩) (by show N < B0; omega) _
  · have hk2 := kids_grown (v' := v') (B := B0) hkids hg hv
    exact hk2.to fun g hg _ => ⟨hg, fun j => cell_block (hs g (by omega))⟩
  · exact fun i h => (cell_block (hbs bT (by omega) (by omega) (by omega))).trans (tx i h)
theorem PtL.k (h : PtL w N B0 bT fv X Y pv D rv fs ps l acc W) : PtK w N fv X Y pv D rv fs ps W :=
  ⟨h.b, h.n.1, h.p6, h.p12, h.ff.to (stay_self fun _ hg _ => ⟨hg.1, hg.2.1⟩), h.pp.to (stay_self fun _ hg _ => ⟨hg.1, hg.2.1⟩)⟩
theorem PtL.r (h : PtL w N B0 bT fv X Y pv D rv fs ps l acc W) : PartsP W (fun g => w.heap.size < g ∧ g ≠ N) rv (acc.map (·.1)) := by
  have hn := h.n
  exact (h.own.parts (P := fun g => B0 ≤ g) (h.kids.to (stay_self fun _ hg _ => hg.1)) (fun _ h => h)).to (stay_self fun _ hg _ => ⟨by omega, by omega⟩)
theorem PtK.loop (h : PtK w N fv X Y pv D (.slice none 0 0) fs ps W) (hT : w.heap.size < bT ∧ bT ≠ N ∧ bT < W.heap.size) (tx : ∀ i (h : i < l.length), W.cell? ⟨bT, i, none⟩ = some (.string (textQ l[i]))) : PtL w N W.heap.size bT fv X Y pv D (.slice none 0 0) fs ps l [] W :=
  ⟨h.b, ⟨h.n, h.p12.lt, hT.2.2, hT.1, hT.2.1, Nat.le_refl _⟩, h.p6, h.p12, h.ff.to (stay_self fun _ hg hl => ⟨hg.1, hg.2, hl⟩), h.pp.to (stay_self fun _ hg hl => ⟨hg.1, hg.2, hl⟩), World.ownsRow_nil _ _ _ _, kids_nil _ _, tx⟩
end

set_option maxRecDepth 100000 in
set_option maxHeartbeats 32000000 in
theorem r13part_step (d j : Nat) (hd : j + d = 4) (ih : ∀ d', d = d' + 1 → ∀ (s : ByteArray) (n : Nat) (w : World), s.size ≤ 90000 → n ≤ 16 → Calls Tryz.prog 32 #[.string s, .int .i64 ((j : Int) + 1), .int .i64 (n : Int)] w (PartPost13 (partM d' s.data.toList n) w))
    (s : ByteArray) (n : Nat) (w : World) (hs : s.size ≤ 90000) (hn : n ≤ 16) :
    Calls Tryz.prog 32 #[.string s, .int .i64 (j : Int), .int .i64 (n : Int)] w (PartPost13 (partM d s.data.toList n) w) := by
  obtain ⟨R, hR⟩ : ∃ R, partM d s.data.toList n = R := ⟨_, rfl⟩
  rw [hR]
  obtain ⟨w1, hw1⟩ : ∃ w1, w.alloc (.cells #[.slice none 0 0, .string ⟨#[]⟩, .string ⟨#[]⟩, .slice none 0 0, .string ⟨#[]⟩, .slice none 0 0] 29) = w1 := ⟨_, rfl⟩
  have b1 : Below w.heap.size w w1 := by rw [← hw1]; exact (Below.refl _ _).alloc (Nat.le_refl _) _
  have z1 : w1.heap.size = w.heap.size + 1 := by rw [← hw1]; simp
  have p1 : PrtAt w1 w.heap.size (.slice none 0 0) (.string ⟨#[]⟩) (.string ⟨#[]⟩) (.slice none 0 0) (.string ⟨#[]⟩) (.slice none 0 0) := by rw [← hw1]; exact prt_new w _ _ _ _ _ _
  have hstep : ∃ sub, partM d = stepM sub ∧ (d = 0 → sub = none) ∧ ∀ d', d = d' + 1 → sub = some (partM d') := by
    match d with
    | 0 => exact ⟨none, rfl, fun _ => rfl, fun d' h => by cases h⟩
    | d + 1 => exact ⟨some (partM d), rfl, (fun h => by cases h), fun d' h => by cases h; rfl⟩
  obtain ⟨sub, hsub, hsub0, hsub1⟩ := hstep
  have hsl : s.data.toList.length = s.size := rfl
  rw [hsub] at hR
  unfold stepM at hR
  by_cases h16 : 16 ≤ n
  · rw [if_pos h16] at hR
    obtain rfl : n = 16 := by omega
    have HR := Lib.hid hR.symm
    have P6 := Lib.hid p1
    have HB := Lib.hid b1
    clear hR hsub hsub0 hsub1 ih p1 b1 hs h16 hn
    go_enter Tryz.func32, Tryz.ntmps32
    obtain ⟨y0, y1, y2, y3, y4, y5, v0, v1, v2, v3, v4, v5⟩ := P6.out.cells
    have pk := (P6.out.put (.slice none 0 0) (.string ⟨#[]⟩) (.string ⟨#[]⟩) (.slice none 0 0) (.string ⟨#[]⟩) (.slice none 0 0)).cells
    unfold putP at pk
    obtain ⟨k0, k1, k2, k3, k4, k5, _⟩ := pk
    have Fin : Hid (PartPost13 R w (.returned (.tuple #[.agg #[.slice none 0 0, .string ⟨#[]⟩, .string ⟨#[]⟩, .slice none 0 0, .string ⟨#[]⟩, .slice none 0 0], .int .i64 16, .int .i64 3])) (putP w1 w.heap.size (.slice none 0 0) (.string ⟨#[]⟩) (.string ⟨#[]⟩) (.slice none 0 0) (.string ⟨#[]⟩) (.slice none 0 0))) := Lib.hid (bad13 HB.out HR.out)
    go_wp2
    refine bodyPost_ret (v := .tuple #[.agg #[.slice none 0 0, .string ⟨#[]⟩, .string ⟨#[]⟩, .slice none 0 0, .string ⟨#[]⟩, .slice none 0 0], .int .i64 16, .int .i64 3]) (by simp [results, Tryz.f32, go_sem, k0, k1, k2, k3, k4, k5]) rfl Fin.out
  · rw [if_neg h16] at hR
    obtain ⟨n1, hn1⟩ : ∃ n1, n + 1 = n1 := ⟨_, rfl⟩
    have hwn : IntKind.i64.wrap ((n : Int) + 1) = (n1 : Int) := by rw [IntWalk.i64_in _ (by omega)]; omega
    have hni : (n : Int) < 16 := by omega
    rw [hn1] at hR
    have hpz := r10parse_any s w1 (by omega)
    have hps := parse_small s.data.toList
    have hgp := fun h => good_parts (s := s.data.toList) h
    obtain ⟨⟨⟨fs, raw⟩, er⟩, hpq⟩ : ∃ r, parseH s.data.toList = r := ⟨_, rfl⟩
    unfold ParsePost at hpz
    rw [hpq] at hpz hR hps
    obtain ⟨RAW, hRAW⟩ : ∃ RAW, textQ raw = RAW := ⟨_, rfl⟩
    have hRs : RAW.size ≤ 90000 := by rw [← hRAW]; show raw.length ≤ _; have := hps.2; simp only at this; omega
    have hsm : SmallF 1000000 fs := fun f hf => by have := hps.1 f hf; omega
    have hpz2 : Calls Tryz.prog 59 #[.string s] w1 fun e w' => ∃ a1 nf c1, e = .returned (.tuple #[.slice a1 nf c1, .string RAW, .int .i64 er]) ∧ Hid (FieldsP w' (fun g => w1.heap.size ≤ g) (.slice a1 nf c1) fs ∧ Below w1.heap.size w1 w') := hpz.mono fun e w' ⟨v, h1, h2, h3⟩ => by
      have h4 := FieldsOwn.new h2
      obtain ⟨a1, c1, rfl, _⟩ := h4.slice
      exact ⟨a1, _, c1, by rw [h1, ← hRAW], Lib.hid ⟨h4, h3⟩⟩
    have HW := Lib.hid (And.intro hRAW (And.intro hsm hRs))
    have P1 := Lib.hid (And.intro b1 (And.intro z1 p1))
    have HN := Lib.hid hn1
    clear hpz hps hgp hpq hRAW hsm hn1 b1 z1 p1 hsl h16 hsub
    by_cases he : er = 0
    · subst he
      rw [if_neg (by simp)] at hR
      have HR0 := Lib.hid hR
      clear hR
      go_enter Tryz.func32, Tryz.ntmps32
      go_wp2_with fail
      refine hpz2.mono ?_
      rintro e w2 ⟨a1, nf, c1, rfl, hx⟩
      obtain ⟨wA, hwA⟩ : ∃ W, w2.alloc (.cells #[.slice none 0 0, .string ⟨#[]⟩, .string ⟨#[]⟩, .slice none 0 0, .string ⟨#[]⟩, .slice none 0 0] 29) = W := ⟨_, rfl⟩
      have lA : Below w2.heap.size w2 wA := by rw [← hwA]; exact (Below.refl _ _).alloc (Nat.le_refl _) _
      have pA : PrtAt wA w2.heap.size (.slice none 0 0) (.string ⟨#[]⟩) (.string ⟨#[]⟩) (.slice none 0 0) (.string ⟨#[]⟩) (.slice none 0 0) := by rw [← hwA]; exact prt_new w2 _ _ _ _ _ _
      obtain ⟨A0, A1, A2, A3, A4, A5, B0, B1, B2, B3, B4, B5⟩ := pA.cells
      obtain ⟨w3, hw3⟩ : ∃ W, (((((wA.setCell ⟨w2.heap.size, 0, none⟩ (.slice a1 nf c1)).setCell ⟨w2.heap.size, 1, none⟩ (.string ⟨#[116, 101, 120, 116]⟩)).setCell ⟨w2.heap.size, 2, none⟩ (.string ⟨#[112, 108, 97, 105, 110]⟩)).setCell ⟨w2.heap.size, 3, none⟩ (.slice none 0 0)).setCell ⟨w2.heap.size, 4, none⟩ (.string ⟨#[]⟩)).setCell ⟨w2.heap.size, 5, none⟩ (.slice none 0 0) = W := ⟨_, rfl⟩
      have K3 : Hid (PtK w w2.heap.size (.slice a1 nf c1) (.string ⟨#[116, 101, 120, 116]⟩) (.string ⟨#[112, 108, 97, 105, 110]⟩) (.slice none 0 0) (.string ⟨#[]⟩) (.slice none 0 0) fs [] w3) := Lib.hid (by
        obtain ⟨k1, k2, k3⟩ := P1.out
        obtain ⟨k4, k5⟩ := hx.out
        have e3 : putP wA w2.heap.size (.slice a1 nf c1) (.string ⟨#[116, 101, 120, 116]⟩) (.string ⟨#[112, 108, 97, 105, 110]⟩) (.slice none 0 0) (.string ⟨#[]⟩) (.slice none 0 0) = w3 := hw3
        have l3 : Below w2.heap.size w2 w3 := by rw [← e3]; exact below_putP lA (Nat.le_refl _) _ _ _ _ _ _
        have b13 := k5.trans (l3.mono k5.size)
        have hz := k5.size
        exact ⟨k1.trans (b13.mono k1.size), by omega, k3.below b13, by rw [← e3]; exact pA.put _ _ _ _ _ _, k4.to (fun g hg hl => ⟨⟨by omega, by omega⟩, fun jj => l3.cell (p := ⟨g, jj, none⟩) hl⟩), ParsP.nil _ _⟩)
      have hget : Calls Tryz.prog 60 #[.slice a1 nf c1, .string ⟨#[99, 111, 110, 116, 101, 110, 116, 45, 116, 121, 112, 101]⟩] w3 fun e w' => e = .returned (foundH (getH fs ctM)) ∧ Below w3.heap.size w3 w' := by
        have := r10get_any w3.heap.size (.slice a1 nf c1) fs ⟨#[99, 111, 110, 116, 101, 110, 116, 45, 116, 121, 112, 101]⟩ w3 K3.out.ff.at (Nat.le_refl _) HW.out.2.1 (by decide)
        rw [show (⟨#[99, 111, 110, 116, 101, 110, 116, 45, 116, 121, 112, 101]⟩ : ByteArray).data.toList = [99, 111, 110, 116, 101, 110, 116, 45, 116, 121, 112, 101] from rfl, get_name ct_low] at this
        exact this
      have hcod : Hid (∀ W B a c, FieldsP W B (.slice a nf c) fs → Calls Tryz.prog 62 #[.slice a nf c] W fun e w' => e = .returned (.int .i64 (codM fs)) ∧ Below W.heap.size W w') := Lib.hid fun W B a c h => r13cod_any W.heap.size _ fs W h.at (Nat.le_refl _) HW.out.2.1
      have htyp : typM fs = match getH fs ctM with
        | none => some (textM, plainM, [])
        | some t => parseC t := rfl
      clear hpz2 hx lA pA
      cases hg : getH fs ctM with
      | none =>
        rw [hg] at hget htyp
        simp only at htyp
        have hget2 : Calls Tryz.prog 60 #[.slice a1 nf c1, .string ⟨#[99, 111, 110, 116, 101, 110, 116, 45, 116, 121, 112, 101]⟩] w3 fun e w' => e = .returned (.tuple #[.string ⟨#[]⟩, .bool false]) ∧ Below w3.heap.size w3 w' := hget
        obtain ⟨t, ht⟩ : ∃ t : TypeC, (textM, plainM, []) = t := ⟨_, rfl⟩
        have ht0 : t.2.2 = [] := by rw [← ht]
        have hX : textQ t.1 = ⟨#[116, 101, 120, 116]⟩ := by rw [← ht]; rfl
        have hY : textQ t.2.1 = ⟨#[112, 108, 97, 105, 110]⟩ := by rw [← ht]; rfl
        have hmu : t.1 ≠ multiM := by rw [← ht]; decide
        rw [ht] at htyp
        clear hget hg ht
        go_wp2_with fail
        refine hget2.mono ?_
        rintro e w4 ⟨rfl, hb⟩
        have K4 := Lib.hid (K3.out.step hb)
        rw [← ht0] at K4
        clear hget2 hb K3
        obtain ⟨c, hc⟩ : ∃ c, codM fs = c := ⟨_, rfl⟩
        have hcw := cod_ways fs
        rw [hc] at hcw
        have h5 := hcod.out w4 _ _ _ K4.out.ff
        rw [hc] at h5
        have HR1 : Hid (R = match leafM c raw with
          | none => (nilM, n1, 2)
          | some b => (TreeM.mk fs t b [], n1, 0)) := Lib.hid (by
          rw [← HR0.out]
          simp only [htyp]
          rw [if_pos hmu, hc]
          cases leafM c raw <;> rfl)
        have hXm : ((⟨#[116, 101, 120, 116]⟩ : ByteArray).toList != [109, 117, 108, 116, 105, 112, 97, 114, 116]) = true := by
          rw [← hX, bne_iff_ne]
          intro h
          rw [Lib.toList_data] at h
          exact hmu h
        have hXe : ((⟨#[116, 101, 120, 116]⟩ : ByteArray).toList == [109, 117, 108, 116, 105, 112, 97, 114, 116]) = false := by
          rw [← hX, beq_eq_false_iff_ne]
          intro h
          rw [Lib.toList_data] at h
          exact hmu h
        have HX := Lib.hid (And.intro hX hY)
        clear hcod htyp hmu hX hY hc HR0
        go_wp2_with fail
        refine h5.mono ?_
        rintro e w5 ⟨rfl, hb⟩
        have K5 := Lib.hid (K4.out.step hb)
        clear h5 hb
        obtain ⟨q0, q1, q2, q3, q4, q5, -, -, -, -, r4, -⟩ := K5.out.p12.cells
        obtain ⟨w6, hw6⟩ : ∃ W, w5.setCell ⟨w2.heap.size, 4, none⟩ (.string RAW) = W := ⟨_, rfl⟩
        have K6 : Hid (PtK w w2.heap.size (.slice a1 nf c1) (.string (⟨#[116, 101, 120, 116]⟩ : ByteArray)) (.string (⟨#[112, 108, 97, 105, 110]⟩ : ByteArray)) (.slice none 0 0) (.string RAW) (.slice none 0 0) fs t.2.2 w6) := Lib.hid (by rw [← hw6]; exact K5.out.body _)
        rcases hcw with rfl | rfl | rfl | rfl
        · have HR : Hid (R = (TreeM.mk fs t raw [], n1, 0)) := Lib.hid HR1.out
          obtain ⟨y0, y1, y2, y3, y4, y5, v0, v1, v2, v3, v4, v5⟩ := K6.out.p6.cells
          obtain ⟨x0, x1, x2, x3, x4, x5, -⟩ := K6.out.p12.cells
          have pk := (K6.out.p6.put (.slice a1 nf c1) (.string (⟨#[116, 101, 120, 116]⟩ : ByteArray)) (.string (⟨#[112, 108, 97, 105, 110]⟩ : ByteArray)) (.slice none 0 0) (.string RAW) (.slice none 0 0)).cells
          unfold putP at pk
          obtain ⟨k0, k1, k2, k3, k4, k5, _⟩ := pk
          have Fin : Hid (PartPost13 R w (.returned (.tuple #[.agg #[.slice a1 nf c1, .string (⟨#[116, 101, 120, 116]⟩ : ByteArray), .string (⟨#[112, 108, 97, 105, 110]⟩ : ByteArray), .slice none 0 0, .string RAW, .slice none 0 0], .int .i64 (n1 : Int), .int .i64 0])) (putP w6 w.heap.size (.slice a1 nf c1) (.string (⟨#[116, 101, 120, 116]⟩ : ByteArray)) (.string (⟨#[112, 108, 97, 105, 110]⟩ : ByteArray)) (.slice none 0 0) (.string RAW) (.slice none 0 0))) := Lib.hid (K6.out.good (p := TreeM.mk fs t raw []) (PartsP.nil _ _) HX.out.1 HX.out.2 HW.out.1 rfl rfl HR.out)
          go_wp2
          refine bodyPost_ret (v := .tuple #[.agg #[.slice a1 nf c1, .string (⟨#[116, 101, 120, 116]⟩ : ByteArray), .string (⟨#[112, 108, 97, 105, 110]⟩ : ByteArray), .slice none 0 0, .string RAW, .slice none 0 0], .int .i64 (n1 : Int), .int .i64 0]) (by simp [results, Tryz.f32, go_sem, k0, k1, k2, k3, k4, k5]) rfl Fin.out
        · have h6 := r3unf_any RAW w6 (by have := HW.out.2.2; omega)
          rw [show RAW.data.toList = raw by rw [← HW.out.1]; rfl] at h6
          obtain ⟨q0, q1, q2, q3, q4, q5, -, -, -, -, r6, -⟩ := K6.out.p12.cells
          clear K4 K5
          cases hu : unfoldB raw with
          | none =>
            rw [hu] at h6
            have HR : Hid (R = (nilM, n1, 2)) := Lib.hid (by
              have := HR1.out
              rw [show leafM 1 raw = unfoldB raw from rfl, hu] at this
              exact this)
            have h62 : Calls Tryz.prog 63 #[.string RAW] w6 fun e w' => e = .returned (.tuple #[.string ⟨#[]⟩, .int .i64 2]) ∧ Below w6.heap.size w6 w' := h6
            clear hu HR1 h6
            go_wp2_with fail
            refine h62.mono ?_
            rintro e w7 ⟨rfl, hb⟩
            have K7 := Lib.hid (K6.out.step hb)
            obtain ⟨-, -, -, -, s4, -, -, -, -, -, r7, -⟩ := K7.out.p12.cells
            obtain ⟨w8, hw8⟩ : ∃ W, w7.setCell ⟨w2.heap.size, 4, none⟩ (.string ⟨#[]⟩) = W := ⟨_, rfl⟩
            have K8 : Hid (PtK w w2.heap.size (.slice a1 nf c1) (.string (⟨#[116, 101, 120, 116]⟩ : ByteArray)) (.string (⟨#[112, 108, 97, 105, 110]⟩ : ByteArray)) (.slice none 0 0) (.string ⟨#[]⟩) (.slice none 0 0) fs t.2.2 w8) := Lib.hid (by rw [← hw8]; exact K7.out.body _)
            clear h62 hb K6 K7
            obtain ⟨y0, y1, y2, y3, y4, y5, v0, v1, v2, v3, v4, v5⟩ := K8.out.p6.cells
            have pk := (K8.out.p6.put (.slice none 0 0) (.string ⟨#[]⟩) (.string ⟨#[]⟩) (.slice none 0 0) (.string ⟨#[]⟩) (.slice none 0 0)).cells
            unfold putP at pk
            obtain ⟨k0, k1, k2, k3, k4, k5, _⟩ := pk
            have Fin : Hid (PartPost13 R w (.returned (.tuple #[.agg #[.slice none 0 0, .string ⟨#[]⟩, .string ⟨#[]⟩, .slice none 0 0, .string ⟨#[]⟩, .slice none 0 0], .int .i64 (n1 : Int), .int .i64 2])) (putP w8 w.heap.size (.slice none 0 0) (.string ⟨#[]⟩) (.string ⟨#[]⟩) (.slice none 0 0) (.string ⟨#[]⟩) (.slice none 0 0))) := Lib.hid (bad13 K8.out.b HR.out)
            go_wp2
            refine bodyPost_ret (v := .tuple #[.agg #[.slice none 0 0, .string ⟨#[]⟩, .string ⟨#[]⟩, .slice none 0 0, .string ⟨#[]⟩, .slice none 0 0], .int .i64 (n1 : Int), .int .i64 2]) (by simp [results, Tryz.f32, go_sem, k0, k1, k2, k3, k4, k5]) rfl Fin.out
          | some bd =>
            rw [hu] at h6
            obtain ⟨D, hD⟩ : ∃ D, textQ bd = D := ⟨_, rfl⟩
            have h62 : Calls Tryz.prog 63 #[.string RAW] w6 fun e w' => e = .returned (.tuple #[.string D, .int .i64 0]) ∧ Below w6.heap.size w6 w' := by
              rw [← hD]
              exact h6
            have HR : Hid (R = (TreeM.mk fs t bd [], n1, 0)) := Lib.hid (by
              have := HR1.out
              rw [show leafM 1 raw = unfoldB raw from rfl, hu] at this
              exact this)
            have HD := Lib.hid hD
            clear hu HR1 h6 hD
            go_wp2_with fail
            refine h62.mono ?_
            rintro e w7 ⟨rfl, hb⟩
            have K7 := Lib.hid (K6.out.step hb)
            obtain ⟨-, -, -, -, s4, -, -, -, -, -, r7, -⟩ := K7.out.p12.cells
            obtain ⟨w8, hw8⟩ : ∃ W, w7.setCell ⟨w2.heap.size, 4, none⟩ (.string D) = W := ⟨_, rfl⟩
            have K8 : Hid (PtK w w2.heap.size (.slice a1 nf c1) (.string (⟨#[116, 101, 120, 116]⟩ : ByteArray)) (.string (⟨#[112, 108, 97, 105, 110]⟩ : ByteArray)) (.slice none 0 0) (.string D) (.slice none 0 0) fs t.2.2 w8) := Lib.hid (by rw [← hw8]; exact K7.out.body _)
            clear h62 hb K6 K7
            obtain ⟨y0, y1, y2, y3, y4, y5, v0, v1, v2, v3, v4, v5⟩ := K8.out.p6.cells
            obtain ⟨x0, x1, x2, x3, x4, x5, -⟩ := K8.out.p12.cells
            have pk := (K8.out.p6.put (.slice a1 nf c1) (.string (⟨#[116, 101, 120, 116]⟩ : ByteArray)) (.string (⟨#[112, 108, 97, 105, 110]⟩ : ByteArray)) (.slice none 0 0) (.string D) (.slice none 0 0)).cells
            unfold putP at pk
            obtain ⟨k0, k1, k2, k3, k4, k5, _⟩ := pk
            have Fin : Hid (PartPost13 R w (.returned (.tuple #[.agg #[.slice a1 nf c1, .string (⟨#[116, 101, 120, 116]⟩ : ByteArray), .string (⟨#[112, 108, 97, 105, 110]⟩ : ByteArray), .slice none 0 0, .string D, .slice none 0 0], .int .i64 (n1 : Int), .int .i64 0])) (putP w8 w.heap.size (.slice a1 nf c1) (.string (⟨#[116, 101, 120, 116]⟩ : ByteArray)) (.string (⟨#[112, 108, 97, 105, 110]⟩ : ByteArray)) (.slice none 0 0) (.string D) (.slice none 0 0))) := Lib.hid (K8.out.good (p := TreeM.mk fs t bd []) (PartsP.nil _ _) HX.out.1 HX.out.2 HD.out rfl rfl HR.out)
            go_wp2
            refine bodyPost_ret (v := .tuple #[.agg #[.slice a1 nf c1, .string (⟨#[116, 101, 120, 116]⟩ : ByteArray), .string (⟨#[112, 108, 97, 105, 110]⟩ : ByteArray), .slice none 0 0, .string D, .slice none 0 0], .int .i64 (n1 : Int), .int .i64 0]) (by simp [results, Tryz.f32, go_sem, k0, k1, k2, k3, k4, k5]) rfl Fin.out
        · have h6 := r4dec_any RAW w6 (by have := HW.out.2.2; omega)
          rw [show RAW.data.toList = raw by rw [← HW.out.1]; rfl] at h6
          obtain ⟨q0, q1, q2, q3, q4, q5, -, -, -, -, r6, -⟩ := K6.out.p12.cells
          clear K4 K5
          cases hu : decQ raw with
          | none =>
            rw [hu] at h6
            have HR : Hid (R = (nilM, n1, 2)) := Lib.hid (by
              have := HR1.out
              rw [show leafM 2 raw = decQ raw from rfl, hu] at this
              exact this)
            have h62 : Calls Tryz.prog 64 #[.string RAW] w6 fun e w' => e = .returned (.tuple #[.string ⟨#[]⟩, .int .i64 2]) ∧ Below w6.heap.size w6 w' := h6
            clear hu HR1 h6
            go_wp2_with fail
            refine h62.mono ?_
            rintro e w7 ⟨rfl, hb⟩
            have K7 := Lib.hid (K6.out.step hb)
            obtain ⟨-, -, -, -, s4, -, -, -, -, -, r7, -⟩ := K7.out.p12.cells
            obtain ⟨w8, hw8⟩ : ∃ W, w7.setCell ⟨w2.heap.size, 4, none⟩ (.string ⟨#[]⟩) = W := ⟨_, rfl⟩
            have K8 : Hid (PtK w w2.heap.size (.slice a1 nf c1) (.string (⟨#[116, 101, 120, 116]⟩ : ByteArray)) (.string (⟨#[112, 108, 97, 105, 110]⟩ : ByteArray)) (.slice none 0 0) (.string ⟨#[]⟩) (.slice none 0 0) fs t.2.2 w8) := Lib.hid (by rw [← hw8]; exact K7.out.body _)
            clear h62 hb K6 K7
            obtain ⟨y0, y1, y2, y3, y4, y5, v0, v1, v2, v3, v4, v5⟩ := K8.out.p6.cells
            have pk := (K8.out.p6.put (.slice none 0 0) (.string ⟨#[]⟩) (.string ⟨#[]⟩) (.slice none 0 0) (.string ⟨#[]⟩) (.slice none 0 0)).cells
            unfold putP at pk
            obtain ⟨k0, k1, k2, k3, k4, k5, _⟩ := pk
            have Fin : Hid (PartPost13 R w (.returned (.tuple #[.agg #[.slice none 0 0, .string ⟨#[]⟩, .string ⟨#[]⟩, .slice none 0 0, .string ⟨#[]⟩, .slice none 0 0], .int .i64 (n1 : Int), .int .i64 2])) (putP w8 w.heap.size (.slice none 0 0) (.string ⟨#[]⟩) (.string ⟨#[]⟩) (.slice none 0 0) (.string ⟨#[]⟩) (.slice none 0 0))) := Lib.hid (bad13 K8.out.b HR.out)
            go_wp2
            refine bodyPost_ret (v := .tuple #[.agg #[.slice none 0 0, .string ⟨#[]⟩, .string ⟨#[]⟩, .slice none 0 0, .string ⟨#[]⟩, .slice none 0 0], .int .i64 (n1 : Int), .int .i64 2]) (by simp [results, Tryz.f32, go_sem, k0, k1, k2, k3, k4, k5]) rfl Fin.out
          | some bd =>
            rw [hu] at h6
            obtain ⟨D, hD⟩ : ∃ D, textQ bd = D := ⟨_, rfl⟩
            have h62 : Calls Tryz.prog 64 #[.string RAW] w6 fun e w' => e = .returned (.tuple #[.string D, .int .i64 0]) ∧ Below w6.heap.size w6 w' := by
              rw [← hD]
              exact h6
            have HR : Hid (R = (TreeM.mk fs t bd [], n1, 0)) := Lib.hid (by
              have := HR1.out
              rw [show leafM 2 raw = decQ raw from rfl, hu] at this
              exact this)
            have HD := Lib.hid hD
            clear hu HR1 h6 hD
            go_wp2_with fail
            refine h62.mono ?_
            rintro e w7 ⟨rfl, hb⟩
            have K7 := Lib.hid (K6.out.step hb)
            obtain ⟨-, -, -, -, s4, -, -, -, -, -, r7, -⟩ := K7.out.p12.cells
            obtain ⟨w8, hw8⟩ : ∃ W, w7.setCell ⟨w2.heap.size, 4, none⟩ (.string D) = W := ⟨_, rfl⟩
            have K8 : Hid (PtK w w2.heap.size (.slice a1 nf c1) (.string (⟨#[116, 101, 120, 116]⟩ : ByteArray)) (.string (⟨#[112, 108, 97, 105, 110]⟩ : ByteArray)) (.slice none 0 0) (.string D) (.slice none 0 0) fs t.2.2 w8) := Lib.hid (by rw [← hw8]; exact K7.out.body _)
            clear h62 hb K6 K7
            obtain ⟨y0, y1, y2, y3, y4, y5, v0, v1, v2, v3, v4, v5⟩ := K8.out.p6.cells
            obtain ⟨x0, x1, x2, x3, x4, x5, -⟩ := K8.out.p12.cells
            have pk := (K8.out.p6.put (.slice a1 nf c1) (.string (⟨#[116, 101, 120, 116]⟩ : ByteArray)) (.string (⟨#[112, 108, 97, 105, 110]⟩ : ByteArray)) (.slice none 0 0) (.string D) (.slice none 0 0)).cells
            unfold putP at pk
            obtain ⟨k0, k1, k2, k3, k4, k5, _⟩ := pk
            have Fin : Hid (PartPost13 R w (.returned (.tuple #[.agg #[.slice a1 nf c1, .string (⟨#[116, 101, 120, 116]⟩ : ByteArray), .string (⟨#[112, 108, 97, 105, 110]⟩ : ByteArray), .slice none 0 0, .string D, .slice none 0 0], .int .i64 (n1 : Int), .int .i64 0])) (putP w8 w.heap.size (.slice a1 nf c1) (.string (⟨#[116, 101, 120, 116]⟩ : ByteArray)) (.string (⟨#[112, 108, 97, 105, 110]⟩ : ByteArray)) (.slice none 0 0) (.string D) (.slice none 0 0))) := Lib.hid (K8.out.good (p := TreeM.mk fs t bd []) (PartsP.nil _ _) HX.out.1 HX.out.2 HD.out rfl rfl HR.out)
            go_wp2
            refine bodyPost_ret (v := .tuple #[.agg #[.slice a1 nf c1, .string (⟨#[116, 101, 120, 116]⟩ : ByteArray), .string (⟨#[112, 108, 97, 105, 110]⟩ : ByteArray), .slice none 0 0, .string D, .slice none 0 0], .int .i64 (n1 : Int), .int .i64 0]) (by simp [results, Tryz.f32, go_sem, k0, k1, k2, k3, k4, k5]) rfl Fin.out
        · have HR : Hid (R = (nilM, n1, 2)) := Lib.hid HR1.out
          obtain ⟨y0, y1, y2, y3, y4, y5, v0, v1, v2, v3, v4, v5⟩ := K6.out.p6.cells
          have pk := (K6.out.p6.put (.slice none 0 0) (.string ⟨#[]⟩) (.string ⟨#[]⟩) (.slice none 0 0) (.string ⟨#[]⟩) (.slice none 0 0)).cells
          unfold putP at pk
          obtain ⟨k0, k1, k2, k3, k4, k5, _⟩ := pk
          have Fin : Hid (PartPost13 R w (.returned (.tuple #[.agg #[.slice none 0 0, .string ⟨#[]⟩, .string ⟨#[]⟩, .slice none 0 0, .string ⟨#[]⟩, .slice none 0 0], .int .i64 (n1 : Int), .int .i64 2])) (putP w6 w.heap.size (.slice none 0 0) (.string ⟨#[]⟩) (.string ⟨#[]⟩) (.slice none 0 0) (.string ⟨#[]⟩) (.slice none 0 0))) := Lib.hid (bad13 K6.out.b HR.out)
          go_wp2
          refine bodyPost_ret (v := .tuple #[.agg #[.slice none 0 0, .string ⟨#[]⟩, .string ⟨#[]⟩, .slice none 0 0, .string ⟨#[]⟩, .slice none 0 0], .int .i64 (n1 : Int), .int .i64 2]) (by simp [results, Tryz.f32, go_sem, k0, k1, k2, k3, k4, k5]) rfl Fin.out
      | some b =>
        rw [hg] at hget htyp
        simp only at htyp
        obtain ⟨Bq, hBq⟩ : ∃ Bq, textQ b = Bq := ⟨_, rfl⟩
        have hBs : Bq.size ≤ 1000000 := by
          rw [← hBq]
          exact get_small HW.out.2.1 hg
        have hget2 : Calls Tryz.prog 60 #[.slice a1 nf c1, .string ⟨#[99, 111, 110, 116, 101, 110, 116, 45, 116, 121, 112, 101]⟩] w3 fun e w' => e = .returned (.tuple #[.string Bq, .bool true]) ∧ Below w3.heap.size w3 w' := by
          rw [← hBq]
          exact hget
        have hct := fun W => r12parse_own Bq W hBs
        have hBd : Bq.data.toList = b := by rw [← hBq]; rfl
        simp only [hBd] at hct
        clear hget hg hBq hBs hBd
        cases hpc : parseC b with
        | none =>
          rw [hpc] at htyp
          have HR : Hid (R = (nilM, n1, 2)) := Lib.hid (by rw [← HR0.out]; simp only [htyp])
          have hct2 : Hid (∀ W, Calls Tryz.prog 61 #[.string Bq] W fun e w' => (∃ a2 n2 c2, e = .returned (.tuple #[.agg #[.string ⟨#[]⟩, .string ⟨#[]⟩, .slice a2 n2 c2], .int .i64 2])) ∧ Below W.heap.size W w') := Lib.hid fun W => (hct W).mono fun e w' ⟨v, h1, h2, h3⟩ => by
            have hpt : parseT b = (([], [], []), 2) := by unfold parseT; rw [hpc]
            rw [hpt] at h1 h2
            have h4 := ParsOwn.at h2
            obtain ⟨a2, c2, rfl, _⟩ := h4.slice
            exact ⟨⟨a2, 0, c2, by rw [h1]; rfl⟩, h3⟩
          clear hct hpc htyp hcod HR0
          go_wp2_with fail
          refine hget2.mono ?_
          rintro e w4 ⟨rfl, hb⟩
          have K4 := Lib.hid (K3.out.step hb)
          have h4 := hct2.out w4
          clear hget2 hb K3 hct2
          go_wp2_with fail
          refine h4.mono ?_
          rintro e w5 ⟨⟨a2, n2, c2, rfl⟩, hb⟩
          obtain ⟨w6, hw6⟩ : ∃ W, w5.alloc (.cells #[.string ⟨#[]⟩, .string ⟨#[]⟩, .slice a2 n2 c2] 26) = W := ⟨_, rfl⟩
          have K6 : Hid (PtK w w2.heap.size (.slice a1 nf c1) (.string ⟨#[116, 101, 120, 116]⟩) (.string ⟨#[112, 108, 97, 105, 110]⟩) (.slice none 0 0) (.string ⟨#[]⟩) (.slice none 0 0) fs [] w6) := Lib.hid ((K4.out.step hb).step (by rw [← hw6]; exact (Below.refl _ _).alloc (Nat.le_refl _) _))
          clear h4 hb K4
          obtain ⟨y0, y1, y2, y3, y4, y5, v0, v1, v2, v3, v4, v5⟩ := K6.out.p6.cells
          have pk := (K6.out.p6.put (.slice none 0 0) (.string ⟨#[]⟩) (.string ⟨#[]⟩) (.slice none 0 0) (.string ⟨#[]⟩) (.slice none 0 0)).cells
          unfold putP at pk
          obtain ⟨k0, k1, k2, k3, k4, k5, _⟩ := pk
          have Fin : Hid (PartPost13 R w (.returned (.tuple #[.agg #[.slice none 0 0, .string ⟨#[]⟩, .string ⟨#[]⟩, .slice none 0 0, .string ⟨#[]⟩, .slice none 0 0], .int .i64 (n1 : Int), .int .i64 2])) (putP w6 w.heap.size (.slice none 0 0) (.string ⟨#[]⟩) (.string ⟨#[]⟩) (.slice none 0 0) (.string ⟨#[]⟩) (.slice none 0 0))) := Lib.hid (bad13 K6.out.b HR.out)
          go_wp2
          refine bodyPost_ret (v := .tuple #[.agg #[.slice none 0 0, .string ⟨#[]⟩, .string ⟨#[]⟩, .slice none 0 0, .string ⟨#[]⟩, .slice none 0 0], .int .i64 (n1 : Int), .int .i64 2]) (by simp [results, Tryz.f32, go_sem, k0, k1, k2, k3, k4, k5]) rfl Fin.out
        | some t =>
          rw [hpc] at htyp
          obtain ⟨X, hX⟩ : ∃ X, textQ t.1 = X := ⟨_, rfl⟩
          obtain ⟨Y, hY⟩ : ∃ Y, textQ t.2.1 = Y := ⟨_, rfl⟩
          have hct2 : Hid (∀ W, Calls Tryz.prog 61 #[.string Bq] W fun e w' => ∃ a2 n2 c2, e = .returned (.tuple #[.agg #[.string X, .string Y, .slice a2 n2 c2], .int .i64 0]) ∧ Hid (ParsP w' (fun g => W.heap.size ≤ g) (.slice a2 n2 c2) t.2.2 ∧ Below W.heap.size W w')) := Lib.hid fun W => (hct W).mono fun e w' ⟨v, h1, h2, h3⟩ => by
            have hpt : parseT b = (t, 0) := by unfold parseT; rw [hpc]
            rw [hpt] at h1 h2
            have h4 := ParsOwn.new h2
            obtain ⟨a2, c2, rfl, _⟩ := h4.slice
            exact ⟨a2, _, c2, by rw [h1, ← hX, ← hY]; rfl, Lib.hid ⟨h4, h3⟩⟩
          clear hct hpc
          go_wp2_with fail
          refine hget2.mono ?_
          rintro e wa ⟨rfl, hb⟩
          have Ka := Lib.hid (K3.out.step hb)
          have h4 := hct2.out wa
          clear hget2 hb K3 hct2
          go_wp2_with fail
          refine h4.mono ?_
          rintro e wb ⟨a2, n2, c2, rfl, hx⟩
          obtain ⟨wc, hwc⟩ : ∃ W, wb.alloc (.cells #[.string X, .string Y, .slice a2 n2 c2] 26) = W := ⟨_, rfl⟩
          have lc : Below wb.heap.size wb wc := by rw [← hwc]; exact (Below.refl _ _).alloc (Nat.le_refl _) _
          have tc : TypAt wc wb.heap.size X Y a2 n2 c2 := by rw [← hwc]; exact typ_new wb _ _ _ _ _
          have hpp : ParsP wc (fun g => w.heap.size < g ∧ g ≠ w2.heap.size) (.slice a2 n2 c2) t.2.2 := hx.out.1.to (fun g hg hl => ⟨⟨by have := Ka.out.p12.lt; have := Ka.out.n; omega, by have := Ka.out.p12.lt; omega⟩, fun jj => lc.cell (p := ⟨g, jj, none⟩) hl⟩)
          have Kc := Lib.hid ((Ka.out.step hx.out.2).step lc)
          obtain ⟨w4, hw4⟩ : ∃ W, ((wc.setCell ⟨w2.heap.size, 1, none⟩ (.string X)).setCell ⟨w2.heap.size, 2, none⟩ (.string Y)).setCell ⟨w2.heap.size, 3, none⟩ (.slice a2 n2 c2) = W := ⟨_, rfl⟩
          have K4 : Hid (PtK w w2.heap.size (.slice a1 nf c1) (.string X) (.string Y) (.slice a2 n2 c2) (.string ⟨#[]⟩) (.slice none 0 0) fs t.2.2 w4) := Lib.hid (by
            have k1 := Kc.out.main (.string X)
            have k2 := k1.sub (.string Y)
            rw [← hw4]
            exact k2.pars (.slice a2 n2 c2) t.2.2 ((hpp.to (stay_set (B := w2.heap.size) (j := 1) (fun _ hg => hg.2) (.string X))).to (stay_set (B := w2.heap.size) (j := 2) (fun _ hg => hg.2) (.string Y))))
          obtain ⟨t0, t1, t2, -⟩ := tc.cells
          obtain ⟨-, s1, s2, s3, -, -, -, f1, f2, f3, -, -⟩ := Kc.out.p12.cells
          clear h4 hx lc tc hpp Ka
          by_cases hmu : t.1 ≠ multiM
          · skip
            obtain ⟨c, hc⟩ : ∃ c, codM fs = c := ⟨_, rfl⟩
            have hcw := cod_ways fs
            rw [hc] at hcw
            have h5 := hcod.out w4 _ _ _ K4.out.ff
            rw [hc] at h5
            have HR1 : Hid (R = match leafM c raw with
              | none => (nilM, n1, 2)
              | some b => (TreeM.mk fs t b [], n1, 0)) := Lib.hid (by
              rw [← HR0.out]
              simp only [htyp]
              rw [if_pos hmu, hc]
              cases leafM c raw <;> rfl)
            have hXm : (X.toList != [109, 117, 108, 116, 105, 112, 97, 114, 116]) = true := by
              rw [← hX, bne_iff_ne]
              intro h
              rw [Lib.toList_data] at h
              exact hmu h
            have hXe : (X.toList == [109, 117, 108, 116, 105, 112, 97, 114, 116]) = false := by
              rw [← hX, beq_eq_false_iff_ne]
              intro h
              rw [Lib.toList_data] at h
              exact hmu h
            have HX := Lib.hid (And.intro hX hY)
            clear hcod htyp hmu hX hY hc HR0
            go_wp2_with fail

            refine h5.mono ?_
            rintro e w5 ⟨rfl, hb⟩
            have K5 := Lib.hid (K4.out.step hb)
            clear h5 hb
            obtain ⟨q0, q1, q2, q3, q4, q5, -, -, -, -, r4, -⟩ := K5.out.p12.cells
            obtain ⟨w6, hw6⟩ : ∃ W, w5.setCell ⟨w2.heap.size, 4, none⟩ (.string RAW) = W := ⟨_, rfl⟩
            have K6 : Hid (PtK w w2.heap.size (.slice a1 nf c1) (.string X) (.string Y) (.slice a2 n2 c2) (.string RAW) (.slice none 0 0) fs t.2.2 w6) := Lib.hid (by rw [← hw6]; exact K5.out.body _)
            rcases hcw with rfl | rfl | rfl | rfl
            · have HR : Hid (R = (TreeM.mk fs t raw [], n1, 0)) := Lib.hid HR1.out
              obtain ⟨y0, y1, y2, y3, y4, y5, v0, v1, v2, v3, v4, v5⟩ := K6.out.p6.cells
              obtain ⟨x0, x1, x2, x3, x4, x5, -⟩ := K6.out.p12.cells
              have pk := (K6.out.p6.put (.slice a1 nf c1) (.string X) (.string Y) (.slice a2 n2 c2) (.string RAW) (.slice none 0 0)).cells
              unfold putP at pk
              obtain ⟨k0, k1, k2, k3, k4, k5, _⟩ := pk
              have Fin : Hid (PartPost13 R w (.returned (.tuple #[.agg #[.slice a1 nf c1, .string X, .string Y, .slice a2 n2 c2, .string RAW, .slice none 0 0], .int .i64 (n1 : Int), .int .i64 0])) (putP w6 w.heap.size (.slice a1 nf c1) (.string X) (.string Y) (.slice a2 n2 c2) (.string RAW) (.slice none 0 0))) := Lib.hid (K6.out.good (p := TreeM.mk fs t raw []) (PartsP.nil _ _) HX.out.1 HX.out.2 HW.out.1 rfl rfl HR.out)
              go_wp2
              refine bodyPost_ret (v := .tuple #[.agg #[.slice a1 nf c1, .string X, .string Y, .slice a2 n2 c2, .string RAW, .slice none 0 0], .int .i64 (n1 : Int), .int .i64 0]) (by simp [results, Tryz.f32, go_sem, k0, k1, k2, k3, k4, k5]) rfl Fin.out
            · have h6 := r3unf_any RAW w6 (by have := HW.out.2.2; omega)
              rw [show RAW.data.toList = raw by rw [← HW.out.1]; rfl] at h6
              obtain ⟨q0, q1, q2, q3, q4, q5, -, -, -, -, r6, -⟩ := K6.out.p12.cells
              clear K4 K5
              cases hu : unfoldB raw with
              | none =>
                rw [hu] at h6
                have HR : Hid (R = (nilM, n1, 2)) := Lib.hid (by
                  have := HR1.out
                  rw [show leafM 1 raw = unfoldB raw from rfl, hu] at this
                  exact this)
                have h62 : Calls Tryz.prog 63 #[.string RAW] w6 fun e w' => e = .returned (.tuple #[.string ⟨#[]⟩, .int .i64 2]) ∧ Below w6.heap.size w6 w' := h6
                clear hu HR1 h6
                go_wp2_with fail
                refine h62.mono ?_
                rintro e w7 ⟨rfl, hb⟩
                have K7 := Lib.hid (K6.out.step hb)
                obtain ⟨-, -, -, -, s4, -, -, -, -, -, r7, -⟩ := K7.out.p12.cells
                obtain ⟨w8, hw8⟩ : ∃ W, w7.setCell ⟨w2.heap.size, 4, none⟩ (.string ⟨#[]⟩) = W := ⟨_, rfl⟩
                have K8 : Hid (PtK w w2.heap.size (.slice a1 nf c1) (.string X) (.string Y) (.slice a2 n2 c2) (.string ⟨#[]⟩) (.slice none 0 0) fs t.2.2 w8) := Lib.hid (by rw [← hw8]; exact K7.out.body _)
                clear h62 hb K6 K7
                obtain ⟨y0, y1, y2, y3, y4, y5, v0, v1, v2, v3, v4, v5⟩ := K8.out.p6.cells
                have pk := (K8.out.p6.put (.slice none 0 0) (.string ⟨#[]⟩) (.string ⟨#[]⟩) (.slice none 0 0) (.string ⟨#[]⟩) (.slice none 0 0)).cells
                unfold putP at pk
                obtain ⟨k0, k1, k2, k3, k4, k5, _⟩ := pk
                have Fin : Hid (PartPost13 R w (.returned (.tuple #[.agg #[.slice none 0 0, .string ⟨#[]⟩, .string ⟨#[]⟩, .slice none 0 0, .string ⟨#[]⟩, .slice none 0 0], .int .i64 (n1 : Int), .int .i64 2])) (putP w8 w.heap.size (.slice none 0 0) (.string ⟨#[]⟩) (.string ⟨#[]⟩) (.slice none 0 0) (.string ⟨#[]⟩) (.slice none 0 0))) := Lib.hid (bad13 K8.out.b HR.out)
                go_wp2
                refine bodyPost_ret (v := .tuple #[.agg #[.slice none 0 0, .string ⟨#[]⟩, .string ⟨#[]⟩, .slice none 0 0, .string ⟨#[]⟩, .slice none 0 0], .int .i64 (n1 : Int), .int .i64 2]) (by simp [results, Tryz.f32, go_sem, k0, k1, k2, k3, k4, k5]) rfl Fin.out
              | some bd =>
                rw [hu] at h6
                obtain ⟨D, hD⟩ : ∃ D, textQ bd = D := ⟨_, rfl⟩
                have h62 : Calls Tryz.prog 63 #[.string RAW] w6 fun e w' => e = .returned (.tuple #[.string D, .int .i64 0]) ∧ Below w6.heap.size w6 w' := by
                  rw [← hD]
                  exact h6
                have HR : Hid (R = (TreeM.mk fs t bd [], n1, 0)) := Lib.hid (by
                  have := HR1.out
                  rw [show leafM 1 raw = unfoldB raw from rfl, hu] at this
                  exact this)
                have HD := Lib.hid hD
                clear hu HR1 h6 hD
                go_wp2_with fail
                refine h62.mono ?_
                rintro e w7 ⟨rfl, hb⟩
                have K7 := Lib.hid (K6.out.step hb)
                obtain ⟨-, -, -, -, s4, -, -, -, -, -, r7, -⟩ := K7.out.p12.cells
                obtain ⟨w8, hw8⟩ : ∃ W, w7.setCell ⟨w2.heap.size, 4, none⟩ (.string D) = W := ⟨_, rfl⟩
                have K8 : Hid (PtK w w2.heap.size (.slice a1 nf c1) (.string X) (.string Y) (.slice a2 n2 c2) (.string D) (.slice none 0 0) fs t.2.2 w8) := Lib.hid (by rw [← hw8]; exact K7.out.body _)
                clear h62 hb K6 K7
                obtain ⟨y0, y1, y2, y3, y4, y5, v0, v1, v2, v3, v4, v5⟩ := K8.out.p6.cells
                obtain ⟨x0, x1, x2, x3, x4, x5, -⟩ := K8.out.p12.cells
                have pk := (K8.out.p6.put (.slice a1 nf c1) (.string X) (.string Y) (.slice a2 n2 c2) (.string D) (.slice none 0 0)).cells
                unfold putP at pk
                obtain ⟨k0, k1, k2, k3, k4, k5, _⟩ := pk
                have Fin : Hid (PartPost13 R w (.returned (.tuple #[.agg #[.slice a1 nf c1, .string X, .string Y, .slice a2 n2 c2, .string D, .slice none 0 0], .int .i64 (n1 : Int), .int .i64 0])) (putP w8 w.heap.size (.slice a1 nf c1) (.string X) (.string Y) (.slice a2 n2 c2) (.string D) (.slice none 0 0))) := Lib.hid (K8.out.good (p := TreeM.mk fs t bd []) (PartsP.nil _ _) HX.out.1 HX.out.2 HD.out rfl rfl HR.out)
                go_wp2
                refine bodyPost_ret (v := .tuple #[.agg #[.slice a1 nf c1, .string X, .string Y, .slice a2 n2 c2, .string D, .slice none 0 0], .int .i64 (n1 : Int), .int .i64 0]) (by simp [results, Tryz.f32, go_sem, k0, k1, k2, k3, k4, k5]) rfl Fin.out
            · have h6 := r4dec_any RAW w6 (by have := HW.out.2.2; omega)
              rw [show RAW.data.toList = raw by rw [← HW.out.1]; rfl] at h6
              obtain ⟨q0, q1, q2, q3, q4, q5, -, -, -, -, r6, -⟩ := K6.out.p12.cells
              clear K4 K5
              cases hu : decQ raw with
              | none =>
                rw [hu] at h6
                have HR : Hid (R = (nilM, n1, 2)) := Lib.hid (by
                  have := HR1.out
                  rw [show leafM 2 raw = decQ raw from rfl, hu] at this
                  exact this)
                have h62 : Calls Tryz.prog 64 #[.string RAW] w6 fun e w' => e = .returned (.tuple #[.string ⟨#[]⟩, .int .i64 2]) ∧ Below w6.heap.size w6 w' := h6
                clear hu HR1 h6
                go_wp2_with fail
                refine h62.mono ?_
                rintro e w7 ⟨rfl, hb⟩
                have K7 := Lib.hid (K6.out.step hb)
                obtain ⟨-, -, -, -, s4, -, -, -, -, -, r7, -⟩ := K7.out.p12.cells
                obtain ⟨w8, hw8⟩ : ∃ W, w7.setCell ⟨w2.heap.size, 4, none⟩ (.string ⟨#[]⟩) = W := ⟨_, rfl⟩
                have K8 : Hid (PtK w w2.heap.size (.slice a1 nf c1) (.string X) (.string Y) (.slice a2 n2 c2) (.string ⟨#[]⟩) (.slice none 0 0) fs t.2.2 w8) := Lib.hid (by rw [← hw8]; exact K7.out.body _)
                clear h62 hb K6 K7
                obtain ⟨y0, y1, y2, y3, y4, y5, v0, v1, v2, v3, v4, v5⟩ := K8.out.p6.cells
                have pk := (K8.out.p6.put (.slice none 0 0) (.string ⟨#[]⟩) (.string ⟨#[]⟩) (.slice none 0 0) (.string ⟨#[]⟩) (.slice none 0 0)).cells
                unfold putP at pk
                obtain ⟨k0, k1, k2, k3, k4, k5, _⟩ := pk
                have Fin : Hid (PartPost13 R w (.returned (.tuple #[.agg #[.slice none 0 0, .string ⟨#[]⟩, .string ⟨#[]⟩, .slice none 0 0, .string ⟨#[]⟩, .slice none 0 0], .int .i64 (n1 : Int), .int .i64 2])) (putP w8 w.heap.size (.slice none 0 0) (.string ⟨#[]⟩) (.string ⟨#[]⟩) (.slice none 0 0) (.string ⟨#[]⟩) (.slice none 0 0))) := Lib.hid (bad13 K8.out.b HR.out)
                go_wp2
                refine bodyPost_ret (v := .tuple #[.agg #[.slice none 0 0, .string ⟨#[]⟩, .string ⟨#[]⟩, .slice none 0 0, .string ⟨#[]⟩, .slice none 0 0], .int .i64 (n1 : Int), .int .i64 2]) (by simp [results, Tryz.f32, go_sem, k0, k1, k2, k3, k4, k5]) rfl Fin.out
              | some bd =>
                rw [hu] at h6
                obtain ⟨D, hD⟩ : ∃ D, textQ bd = D := ⟨_, rfl⟩
                have h62 : Calls Tryz.prog 64 #[.string RAW] w6 fun e w' => e = .returned (.tuple #[.string D, .int .i64 0]) ∧ Below w6.heap.size w6 w' := by
                  rw [← hD]
                  exact h6
                have HR : Hid (R = (TreeM.mk fs t bd [], n1, 0)) := Lib.hid (by
                  have := HR1.out
                  rw [show leafM 2 raw = decQ raw from rfl, hu] at this
                  exact this)
                have HD := Lib.hid hD
                clear hu HR1 h6 hD
                go_wp2_with fail
                refine h62.mono ?_
                rintro e w7 ⟨rfl, hb⟩
                have K7 := Lib.hid (K6.out.step hb)
                obtain ⟨-, -, -, -, s4, -, -, -, -, -, r7, -⟩ := K7.out.p12.cells
                obtain ⟨w8, hw8⟩ : ∃ W, w7.setCell ⟨w2.heap.size, 4, none⟩ (.string D) = W := ⟨_, rfl⟩
                have K8 : Hid (PtK w w2.heap.size (.slice a1 nf c1) (.string X) (.string Y) (.slice a2 n2 c2) (.string D) (.slice none 0 0) fs t.2.2 w8) := Lib.hid (by rw [← hw8]; exact K7.out.body _)
                clear h62 hb K6 K7
                obtain ⟨y0, y1, y2, y3, y4, y5, v0, v1, v2, v3, v4, v5⟩ := K8.out.p6.cells
                obtain ⟨x0, x1, x2, x3, x4, x5, -⟩ := K8.out.p12.cells
                have pk := (K8.out.p6.put (.slice a1 nf c1) (.string X) (.string Y) (.slice a2 n2 c2) (.string D) (.slice none 0 0)).cells
                unfold putP at pk
                obtain ⟨k0, k1, k2, k3, k4, k5, _⟩ := pk
                have Fin : Hid (PartPost13 R w (.returned (.tuple #[.agg #[.slice a1 nf c1, .string X, .string Y, .slice a2 n2 c2, .string D, .slice none 0 0], .int .i64 (n1 : Int), .int .i64 0])) (putP w8 w.heap.size (.slice a1 nf c1) (.string X) (.string Y) (.slice a2 n2 c2) (.string D) (.slice none 0 0))) := Lib.hid (K8.out.good (p := TreeM.mk fs t bd []) (PartsP.nil _ _) HX.out.1 HX.out.2 HD.out rfl rfl HR.out)
                go_wp2
                refine bodyPost_ret (v := .tuple #[.agg #[.slice a1 nf c1, .string X, .string Y, .slice a2 n2 c2, .string D, .slice none 0 0], .int .i64 (n1 : Int), .int .i64 0]) (by simp [results, Tryz.f32, go_sem, k0, k1, k2, k3, k4, k5]) rfl Fin.out
            · have HR : Hid (R = (nilM, n1, 2)) := Lib.hid HR1.out
              obtain ⟨y0, y1, y2, y3, y4, y5, v0, v1, v2, v3, v4, v5⟩ := K6.out.p6.cells
              have pk := (K6.out.p6.put (.slice none 0 0) (.string ⟨#[]⟩) (.string ⟨#[]⟩) (.slice none 0 0) (.string ⟨#[]⟩) (.slice none 0 0)).cells
              unfold putP at pk
              obtain ⟨k0, k1, k2, k3, k4, k5, _⟩ := pk
              have Fin : Hid (PartPost13 R w (.returned (.tuple #[.agg #[.slice none 0 0, .string ⟨#[]⟩, .string ⟨#[]⟩, .slice none 0 0, .string ⟨#[]⟩, .slice none 0 0], .int .i64 (n1 : Int), .int .i64 2])) (putP w6 w.heap.size (.slice none 0 0) (.string ⟨#[]⟩) (.string ⟨#[]⟩) (.slice none 0 0) (.string ⟨#[]⟩) (.slice none 0 0))) := Lib.hid (bad13 K6.out.b HR.out)
              go_wp2
              refine bodyPost_ret (v := .tuple #[.agg #[.slice none 0 0, .string ⟨#[]⟩, .string ⟨#[]⟩, .slice none 0 0, .string ⟨#[]⟩, .slice none 0 0], .int .i64 (n1 : Int), .int .i64 2]) (by simp [results, Tryz.f32, go_sem, k0, k1, k2, k3, k4, k5]) rfl Fin.out
          · have hmu : t.1 = multiM := Decidable.not_not.1 hmu
            obtain ⟨c, hc⟩ : ∃ c, codM fs = c := ⟨_, rfl⟩
            have h5 := hcod.out w4 _ _ _ K4.out.ff
            rw [hc] at h5
            have hR1 := HR0.out
            simp only [htyp] at hR1
            rw [if_neg (fun h => h hmu), hc] at hR1
            have HR1 := Lib.hid hR1
            have hXm : (X.toList != [109, 117, 108, 116, 105, 112, 97, 114, 116]) = false := by
              rw [← hX, bne_eq_false_iff_eq, Lib.toList_data]
              exact hmu
            have hXe : (X.toList == [109, 117, 108, 116, 105, 112, 97, 114, 116]) = true := by
              rw [← hX, beq_iff_eq, Lib.toList_data]
              exact hmu
            have HX := Lib.hid (And.intro hX hY)
            obtain ⟨BD, hBD⟩ : ∃ BD, textQ (borderM t) = BD := ⟨_, rfl⟩
            have hBDd : BD.data.toList = borderM t := by rw [← hBD]; rfl
            have hBDs : BD.size ≤ 70 := by rw [← hBD]; exact (border_vals htyp).1
            have hcl := border_clean htyp
            have hpar : Hid (∀ W, ParsAt W W.heap.size (.slice a2 n2 c2) t.2.2 → Calls Tryz.prog 65 #[.agg #[.string X, .string Y, .slice a2 n2 c2], .string ⟨#[98, 111, 117, 110, 100, 97, 114, 121]⟩] W fun e w' => (∃ bb, e = .returned (.tuple #[.string BD, .bool bb])) ∧ Below W.heap.size W w') := Lib.hid fun W hW => by
              have := r12param_any W.heap.size (.slice a2 n2 c2) t boundM W hW (Nat.le_refl _)
              unfold typeV at this
              rw [hX, hY] at this
              refine this.mono ?_
              rintro e w' ⟨rfl, hb⟩
              refine ⟨?_, hb⟩
              unfold paramV
              unfold borderM at hBD
              cases hf : findC t.2.2 boundM with
              | none =>
                rw [hf] at hBD
                exact ⟨false, by rw [← hBD]; rfl⟩
              | some p =>
                rw [hf] at hBD
                exact ⟨true, by rw [← hBD]⟩
            have hdiv : Hid (∀ W, Calls Tryz.prog 66 #[.string RAW, .string BD] W (CutPost13 (divM (45 :: 45 :: borderM t) raw) W)) := Lib.hid fun W => by
              have h13 : (13 : UInt8) ∉ BD.data.toList := fun h => hcl.1 (by rw [hBDd] at h; exact List.mem_cons_of_mem _ (List.mem_cons_of_mem _ h))
              have h10 : (10 : UInt8) ∉ BD.data.toList := fun h => hcl.2 (by rw [hBDd] at h; exact List.mem_cons_of_mem _ (List.mem_cons_of_mem _ h))
              have := r13div_any RAW BD W (by have := HW.out.2.2; omega) (by omega) h13 h10
              rw [hBDd, show RAW.data.toList = raw by rw [← HW.out.1]; rfl] at this
              exact this
            clear hcod htyp hmu hX hY hc HR0 hR1 hBD hcl
            go_wp2_with fail
            refine h5.mono ?_
            rintro e w5 ⟨rfl, hb⟩
            have K5 := Lib.hid (K4.out.step hb)
            obtain ⟨q0, q1, q2, q3, q4, q5, -⟩ := K5.out.p12.cells
            have h6 := hpar.out w5 K5.out.pp.at
            clear h5 hb hpar K4
            go_wp2_with fail
            refine h6.mono ?_
            rintro e w6 ⟨⟨bb, rfl⟩, hb⟩
            have K6 := Lib.hid (K5.out.step hb)
            clear h6 hb K5 q0 q1 q2 q3 q4 q5
            have hBl : BD.toList = borderM t := by rw [Lib.toList_data, hBDd]
            by_cases hbe : borderM t = []
            · have d1 : BD.toList = [] := by rw [hBl, hbe]
              have d2 : BD.toList.isEmpty = true := by rw [d1]; rfl
              have HR : Hid (R = (nilM, n1, 2)) := Lib.hid (by
                have h := HR1.out
                rw [if_pos (.inl hbe)] at h
                exact h.symm)
              clear HR1 hdiv hBl hBDd hbe
              obtain ⟨y0, y1, y2, y3, y4, y5, v0, v1, v2, v3, v4, v5⟩ := K6.out.p6.cells
              have pk := (K6.out.p6.put (.slice none 0 0) (.string ⟨#[]⟩) (.string ⟨#[]⟩) (.slice none 0 0) (.string ⟨#[]⟩) (.slice none 0 0)).cells
              unfold putP at pk
              obtain ⟨k0, k1, k2, k3, k4, k5, _⟩ := pk
              have Fin : Hid (PartPost13 R w (.returned (.tuple #[.agg #[.slice none 0 0, .string ⟨#[]⟩, .string ⟨#[]⟩, .slice none 0 0, .string ⟨#[]⟩, .slice none 0 0], .int .i64 (n1 : Int), .int .i64 2])) (putP w6 w.heap.size (.slice none 0 0) (.string ⟨#[]⟩) (.string ⟨#[]⟩) (.slice none 0 0) (.string ⟨#[]⟩) (.slice none 0 0))) := Lib.hid (bad13 K6.out.b HR.out)
              go_wp2
              refine bodyPost_ret (v := .tuple #[.agg #[.slice none 0 0, .string ⟨#[]⟩, .string ⟨#[]⟩, .slice none 0 0, .string ⟨#[]⟩, .slice none 0 0], .int .i64 (n1 : Int), .int .i64 2]) (by simp [results, Tryz.f32, go_sem, k0, k1, k2, k3, k4, k5]) rfl Fin.out
            · have d1 : ¬ BD.toList = [] := by rw [hBl]; exact hbe
              have d2 : BD.toList.isEmpty = false := by rw [List.isEmpty_eq_false_iff]; exact d1
              have d3 : (BD.toList == []) = false := by rw [beq_eq_false_iff_ne]; exact d1
              by_cases hc0 : c = 0
              · subst hc0
                have hR1 := HR1.out
                rw [if_neg (fun h => h.elim hbe (fun h => h rfl))] at hR1
                have h7 := hdiv.out w6
                unfold CutPost13 at h7
                clear HR1 hdiv hBl hBDd hbe
                cases hdv : divM (45 :: 45 :: borderM t) raw with
                | none =>
                  rw [hdv] at h7 hR1
                  have HR : Hid (R = (nilM, n1, 2)) := Lib.hid hR1.symm
                  have h72 : Calls Tryz.prog 66 #[.string RAW, .string BD] w6 fun e w' => (∃ ao nn cap, e = .returned (.tuple #[.slice ao nn cap, .bool false])) ∧ Below w6.heap.size w6 w' := h7.mono fun e w' ⟨ao, nn, cap, h1, _, h3⟩ => ⟨⟨ao, nn, cap, h1⟩, h3⟩
                  clear h7 hR1 hdv
                  go_wp2_with fail
                  refine h72.mono ?_
                  rintro e w7 ⟨⟨ao, nn, cap, rfl⟩, hb⟩
                  have K7 := Lib.hid (K6.out.step hb)
                  clear h72 hb K6
                  obtain ⟨y0, y1, y2, y3, y4, y5, v0, v1, v2, v3, v4, v5⟩ := K7.out.p6.cells
                  have pk := (K7.out.p6.put (.slice none 0 0) (.string ⟨#[]⟩) (.string ⟨#[]⟩) (.slice none 0 0) (.string ⟨#[]⟩) (.slice none 0 0)).cells
                  unfold putP at pk
                  obtain ⟨k0, k1, k2, k3, k4, k5, _⟩ := pk
                  have Fin : Hid (PartPost13 R w (.returned (.tuple #[.agg #[.slice none 0 0, .string ⟨#[]⟩, .string ⟨#[]⟩, .slice none 0 0, .string ⟨#[]⟩, .slice none 0 0], .int .i64 (n1 : Int), .int .i64 2])) (putP w7 w.heap.size (.slice none 0 0) (.string ⟨#[]⟩) (.string ⟨#[]⟩) (.slice none 0 0) (.string ⟨#[]⟩) (.slice none 0 0))) := Lib.hid (bad13 K7.out.b HR.out)
                  go_wp2
                  refine bodyPost_ret (v := .tuple #[.agg #[.slice none 0 0, .string ⟨#[]⟩, .string ⟨#[]⟩, .slice none 0 0, .string ⟨#[]⟩, .slice none 0 0], .int .i64 (n1 : Int), .int .i64 2]) (by simp [results, Tryz.f32, go_sem, k0, k1, k2, k3, k4, k5]) rfl Fin.out
                | some l =>
                  rw [hdv] at h7 hR1
                  have hlne := div_ne hdv
                  have hll : ∀ x ∈ l, x.length ≤ 90000 := fun x hx => by
                    have h1 := div_memP hdv hx
                    have h2 := HW.out.2.2
                    rw [← HW.out.1] at h2
                    have h3 : raw.length ≤ 90000 := h2
                    omega
                  obtain ⟨nl, hnl⟩ : ∃ nl, l.length = nl := ⟨_, rfl⟩
                  have h72 : Calls Tryz.prog 66 #[.string RAW, .string BD] w6 fun e w' => ∃ bT cap, e = .returned (.tuple #[.slice (some ⟨bT, 0, none⟩) nl cap, .bool true]) ∧ nl ≤ cap ∧ cap ≤ maxLen ∧ Hid (Below w6.heap.size w6 w' ∧ (w6.heap.size ≤ bT ∧ bT < w'.heap.size) ∧ ∀ i (h : i < l.length), w'.cell? ⟨bT, i, none⟩ = some (.string (textQ l[i]))) := h7.mono fun e w' ⟨ao, nn, cap, h1, h2, h3⟩ => by
                    obtain ⟨g1, g2, g3, g4⟩ := (h2 l rfl).cellsT
                    obtain ⟨bT, rfl, g5, g6, g7⟩ := g4 hlne
                    exact ⟨bT, cap, by rw [h1, g1, hnl]; rfl, by omega, g3, Lib.hid ⟨h3, ⟨g5, g6⟩, g7⟩⟩
                  have HL := Lib.hid (And.intro hnl hll)
                  clear h7 hdv hlne hll hnl
                  go_wp2_with fail
                  refine h72.mono ?_
                  rintro e w7 ⟨bT, cap, rfl, hnc, hcm, hx⟩
                  unfold maxLen at hcm
                  have K7 := Lib.hid (K6.out.step hx.out.1)
                  have HT : Hid ((w.heap.size < bT ∧ bT ≠ w2.heap.size ∧ bT < w7.heap.size) ∧ ∀ i (h : i < l.length), w7.cell? ⟨bT, i, none⟩ = some (.string (textQ l[i]))) := Lib.hid (by
                    have h1 := hx.out.2.1
                    have h2 := K6.out.p12.lt
                    have h3 := K6.out.n
                    exact ⟨⟨by omega, by omega, h1.2⟩, hx.out.2.2⟩)
                  clear h72 hx K6
                  match d, hd, ih, hsub0, hsub1 with
                  | 0, hd, _, hsub0, _ =>
                    rw [hsub0 rfl] at hR1
                    have HR : Hid (R = (nilM, n1, 10)) := Lib.hid hR1.symm
                    obtain rfl : j = 4 := by omega
                    clear hR1 hsub0 hd
                    obtain ⟨y0, y1, y2, y3, y4, y5, v0, v1, v2, v3, v4, v5⟩ := K7.out.p6.cells
                    have pk := (K7.out.p6.put (.slice none 0 0) (.string ⟨#[]⟩) (.string ⟨#[]⟩) (.slice none 0 0) (.string ⟨#[]⟩) (.slice none 0 0)).cells
                    unfold putP at pk
                    obtain ⟨k0, k1, k2, k3, k4, k5, _⟩ := pk
                    have Fin : Hid (PartPost13 R w (.returned (.tuple #[.agg #[.slice none 0 0, .string ⟨#[]⟩, .string ⟨#[]⟩, .slice none 0 0, .string ⟨#[]⟩, .slice none 0 0], .int .i64 (n1 : Int), .int .i64 10])) (putP w7 w.heap.size (.slice none 0 0) (.string ⟨#[]⟩) (.string ⟨#[]⟩) (.slice none 0 0) (.string ⟨#[]⟩) (.slice none 0 0))) := Lib.hid (bad13 K7.out.b HR.out)
                    go_wp2
                    refine bodyPost_ret (v := .tuple #[.agg #[.slice none 0 0, .string ⟨#[]⟩, .string ⟨#[]⟩, .slice none 0 0, .string ⟨#[]⟩, .slice none 0 0], .int .i64 (n1 : Int), .int .i64 10]) (by simp [results, Tryz.f32, go_sem, k0, k1, k2, k3, k4, k5]) rfl Fin.out
                  | d + 1, hd, ih, _, hsub1 =>
                    rw [hsub1 d rfl] at hR1
                    have hj4 : (j : Int) < 4 := by omega
                    have HBad : Hid (∀ i (hi : i < l.length) ps c, allM (partM d) (l.take i) n1 = (ps, c, 0) → (partM d l[i] c).2.2 ≠ 0 → R = (nilM, (partM d l[i] c).2)) := Lib.hid fun i hi ps c h1 h2 => by
                      have e := all_bad h1 hi h2
                      rw [← hR1]
                      simp only
                      rw [if_neg (by rw [e]; exact h2), e]
                    have HEnd : Hid (∀ ps c, allM (partM d) (l.take l.length) n1 = (ps, c, 0) → R = (.mk fs t [] ps, c, 0)) := Lib.hid fun ps c h1 => by
                      rw [List.take_length] at h1
                      rw [← hR1]
                      simp only
                      rw [h1, if_pos rfl]
                    have IH := Lib.hid (ih d rfl)
                    have hnl0 : 0 ≤ nl := Nat.zero_le _
                    have hn16 : n1 ≤ 16 := by have := HN.out; omega
                    have L7 : Hid (PtL w w2.heap.size w7.heap.size bT (.slice a1 nf c1) (.string X) (.string Y) (.slice a2 n2 c2) (.string ⟨#[]⟩) (.slice none 0 0) fs t.2.2 l [] w7) := Lib.hid (K7.out.loop HT.out.1 HT.out.2)
                    clear hR1 hsub1 ih hd K7 HT
                    go_wp2
                    go_loopw [2, 23] (fun nv iv wr => ∃ (i cnt : Nat) (acc : List KidM) (ao : Option Addr) (nn cap : Nat), i ≤ nl ∧ iv = .int .i64 i ∧ nv = .int .i64 cnt ∧ acc.length = i ∧ i ≤ cnt ∧ cnt ≤ 16 ∧ Hid (allM (partM d) (l.take i) n1 = (acc.map (·.1), cnt, 0)) ∧ Hid (PtL w w2.heap.size w7.heap.size bT (.slice a1 nf c1) (.string X) (.string Y) (.slice a2 n2 c2) (.string ⟨#[]⟩) (.slice ao nn cap) fs t.2.2 l acc wr)) (fun _ iv _ => nl - (intOf iv).toNat)
                    case atStart => exact ⟨0, n1, [], none, 0, 0, by omega, rfl, rfl, rfl, by omega, hn16, Lib.hid rfl, L7⟩
                    case round =>
                      obtain ⟨i, cnt, acc, ao, nn, cap5, hi, rfl, rfl, hacc, hic, hcnt, hall, hlp⟩ := hrel
                      clear L7
                      have hacc2 := Lib.hid hacc
                      clear hacc
                      by_cases hlt : i < nl
                      · have hil : i < l.length := by rw [HL.out.1]; exact hlt
                        have z0 := hlp.out.tx i hil
                        have hcall := IH.out (textQ l[i]) cnt wr (by
                          have := HL.out.2 _ (List.getElem_mem hil)
                          exact this) hcnt
                        rw [show (textQ l[i]).data.toList = l[i] from rfl] at hcall
                        have hbad := Lib.hid (fun h => HBad.out i hil _ _ hall.out h)
                        have hnx := Lib.hid (fun h => all_next hall.out hil h)
                        have hle := part_le d l[i] cnt hcnt
                        have hgt := Lib.hid (fun q m => part_good d l[i] cnt q m)
                        obtain ⟨ti, hti⟩ : ∃ ti, l[i] = ti := ⟨_, rfl⟩
                        rw [hti] at z0 hcall hbad hnx hle hgt
                        obtain ⟨T, hT⟩ : ∃ T, textQ ti = T := ⟨_, rfl⟩
                        rw [hT] at z0 hcall
                        clear hT hti hil hall
                        obtain ⟨r, hr⟩ : ∃ r, partM d ti cnt = r := ⟨_, rfl⟩
                        rw [hr] at hcall hbad hnx hle hgt
                        clear hr
                        obtain ⟨q, cc2, er2⟩ := r
                        unfold PartPost13 at hcall
                        by_cases he : er2 = 0
                        · subst he
                          have hnx2 := Lib.hid (hnx.out rfl)
                          have hc2 := (hgt.out q cc2 rfl).1
                          have hB0 := hlp.out.n.2.2.2.2.2
                          obtain ⟨QX, hQX⟩ : ∃ QX, textQ q.typ.1 = QX := ⟨_, rfl⟩
                          obtain ⟨QY, hQY⟩ : ∃ QY, textQ q.typ.2.1 = QY := ⟨_, rfl⟩
                          obtain ⟨QD, hQD⟩ : ∃ QD, textQ q.body = QD := ⟨_, rfl⟩
                          have hcall2 : Calls Tryz.prog 32 #[.string T, .int .i64 ((j : Int) + 1), .int .i64 (cnt : Int)] wr fun e w' => ∃ a5 n5 q5 a6 n6 q6 a7 n7 q7, e = .returned (.tuple #[.agg #[.slice a5 n5 q5, .string QX, .string QY, .slice a6 n6 q6, .string QD, .slice a7 n7 q7], .int .i64 (cc2 : Int), .int .i64 0]) ∧ Hid (Below wr.heap.size wr w' ∧ TreeP w' (fun g => wr.heap.size ≤ g) q (.slice a5 n5 q5) (.slice a6 n6 q6) (.slice a7 n7 q7)) := hcall.mono fun e w' ⟨fv, pv, rv, h1, h2, h3⟩ => by
                            obtain ⟨⟨a5, n5, q5, rfl⟩, ⟨a6, n6, q6, rfl⟩, ⟨a7, n7, q7, rfl⟩⟩ := h2.slices
                            exact ⟨_, _, _, _, _, _, _, _, _, by rw [h1, ← hQX, ← hQY, ← hQD]; rfl, Lib.hid ⟨h3, h2⟩⟩
                          have HQ := Lib.hid (And.intro hQX (And.intro hQY hQD))
                          have hown : Hid (∀ g, (Value.slice ao nn cap5).ownBlock = some g → g < wr.heap.size) := Lib.hid fun g h => (hlp.out.own.lt g h).2
                          clear hcall hbad hnx hQX hQY hQD hgt
                          go_wp2_with fail
                          refine hcall2.mono ?_
                          rintro e w8 ⟨a5, n5, q5, a6, n6, q6, a7, n7, q7, rfl, hx⟩
                          obtain ⟨w9, hw9⟩ : ∃ W, w8.alloc (.cells #[.slice a5 n5 q5, .string QX, .string QY, .slice a6 n6 q6, .string QD, .slice a7 n7 q7] 29) = W := ⟨_, rfl⟩
                          have b89 : Below w8.heap.size w8 w9 := by rw [← hw9]; exact (Below.refl _ _).alloc (Nat.le_refl _) _
                          obtain ⟨wa, hwa⟩ : ∃ W, w9.alloc (.cells #[.slice a5 n5 q5, .string QX, .string QY, .slice a6 n6 q6, .string QD, .slice a7 n7 q7] 29) = W := ⟨_, rfl⟩
                          have b9a : Below w9.heap.size w9 wa := by rw [← hwa]; exact (Below.refl _ _).alloc (Nat.le_refl _) _
                          have b8a : Below w8.heap.size w8 wa := b89.trans (b9a.mono b89.size)
                          have L9 := Lib.hid ((hlp.out.step hx.out.1).step b89)
                          have La := Lib.hid (L9.out.step b9a)
                          have pn9 : PrtAt w9 w8.heap.size (.slice a5 n5 q5) (.string QX) (.string QY) (.slice a6 n6 q6) (.string QD) (.slice a7 n7 q7) := by rw [← hw9]; exact prt_new w8 _ _ _ _ _ _
                          have pna : PrtAt wa w9.heap.size (.slice a5 n5 q5) (.string QX) (.string QY) (.slice a6 n6 q6) (.string QD) (.slice a7 n7 q7) := by rw [← hwa]; exact prt_new w9 _ _ _ _ _ _
                          have Xa := Lib.hid (And.intro (hx.out.2.to (stay_all b8a)) pna)
                          obtain ⟨g0, g1, g2, g3, g4, g5, -⟩ := L9.out.p12.cells
                          obtain ⟨h0, h1, h2, h3, h4, h5, -⟩ := pn9.cells
                          clear hx b89 b9a b8a pn9 pna hcall2 hlp z0
                          go_wp2_with (at_builtin; refine HeldW.of ?_)
                          unfold HeldW
                          have hkid := prt_kid Xa.out.2 HQ.out.1 HQ.out.2.1 HQ.out.2.2
                          have hal : acc.length ≤ 1000000 := by have := hacc2.out; have hle : cc2 ≤ 16 := hle; omega
                          refine append_part rfl _ _ rfl w7.heap.size (.slice ao nn cap5) acc (q, .slice a5 n5 q5, .slice a6 n6 q6, .slice a7 n7 q7) rfl La.out.own La.out.n.2.2.2.2.2 hal w9.heap.size 1 rfl hkid rfl rfl rfl ?_
                          intro v' wb ho hg hv
                          obtain ⟨ao', cap', rfl⟩ := row_slice ho
                          have Ab := Lib.hid (La.out.app (x := (q, .slice a5 n5 q5, .slice a6 n6 q6, .slice a7 n7 q7)) (Xa.out.1.to (stay_self fun g hg _ => ⟨by omega, fun e => by have := hown.out g e; omega⟩)) ho hg hv)
                          obtain ⟨m0, m1, m2, m3, m4, m5, f0, f1, f2, f3, f4, f5⟩ := Ab.out.1.cells
                          rw [show (acc ++ [(q, Value.slice a5 n5 q5, Value.slice a6 n6 q6, Value.slice a7 n7 q7)]).length = acc.length + 1 by simp] at Ab
                          clear L9 La Xa ho hg hv g0 g1 g2 g3 g4 g5 h0 h1 h2 h3 h4 h5 hwa hw9
                          go_wp2
                          go_roundw
                          case rel => exact ⟨i + 1, cc2, acc ++ [(q, Value.slice a5 n5 q5, Value.slice a6 n6 q6, Value.slice a7 n7 q7)], ao', acc.length + 1, cap', by omega, by go_num, rfl, by have := hacc2.out; simp; omega, by omega, hle, Lib.hid (by rw [List.map_append]; exact hnx2.out), Lib.hid Ab.out.2⟩
                          case measure => simp [intOf]; omega
                        · have hee : ((er2 : Int) != 0) = true := by simpa using he
                          have HR := Lib.hid (hbad.out he)
                          have hcall2 : Calls Tryz.prog 32 #[.string T, .int .i64 ((j : Int) + 1), .int .i64 (cnt : Int)] wr fun e w' => ∃ a5 n5 q5 QX QY a6 n6 q6 QD a7 n7 q7, e = .returned (.tuple #[.agg #[.slice a5 n5 q5, .string QX, .string QY, .slice a6 n6 q6, .string QD, .slice a7 n7 q7], .int .i64 (cc2 : Int), .int .i64 er2]) ∧ Hid (Below wr.heap.size wr w') := hcall.mono fun e w' ⟨fv, pv, rv, h1, h2, h3⟩ => by
                            obtain ⟨⟨a5, n5, q5, rfl⟩, ⟨a6, n6, q6, rfl⟩, ⟨a7, n7, q7, rfl⟩⟩ := h2.slices
                            exact ⟨_, _, _, _, _, _, _, _, _, _, _, _, h1, Lib.hid h3⟩
                          clear hcall hbad hnx hgt he hle
                          go_wp2_with fail
                          refine hcall2.mono ?_
                          rintro e w8 ⟨a5, n5, q5, QX, QY, a6, n6, q6, QD, a7, n7, q7, rfl, hx⟩
                          obtain ⟨w9, hw9⟩ : ∃ W, w8.alloc (.cells #[.slice a5 n5 q5, .string QX, .string QY, .slice a6 n6 q6, .string QD, .slice a7 n7 q7] 29) = W := ⟨_, rfl⟩
                          have L9 := Lib.hid ((hlp.out.step hx.out).step (show Below w8.heap.size w8 w9 by rw [← hw9]; exact (Below.refl _ _).alloc (Nat.le_refl _) _))
                          clear hx hcall2 hlp z0
                          obtain ⟨y0, y1, y2, y3, y4, y5, v0, v1, v2, v3, v4, v5⟩ := L9.out.p6.cells
                          have pk := (L9.out.p6.put (.slice none 0 0) (.string ⟨#[]⟩) (.string ⟨#[]⟩) (.slice none 0 0) (.string ⟨#[]⟩) (.slice none 0 0)).cells
                          unfold putP at pk
                          obtain ⟨k0, k1, k2, k3, k4, k5, _⟩ := pk
                          have Fin : Hid (PartPost13 R w (.returned (.tuple #[.agg #[.slice none 0 0, .string ⟨#[]⟩, .string ⟨#[]⟩, .slice none 0 0, .string ⟨#[]⟩, .slice none 0 0], .int .i64 (cc2 : Int), .int .i64 er2])) (putP w9 w.heap.size (.slice none 0 0) (.string ⟨#[]⟩) (.string ⟨#[]⟩) (.slice none 0 0) (.string ⟨#[]⟩) (.slice none 0 0))) := Lib.hid (bad13 L9.out.b HR.out)
                          go_wp2
                          refine bodyPost_ret (v := .tuple #[.agg #[.slice none 0 0, .string ⟨#[]⟩, .string ⟨#[]⟩, .slice none 0 0, .string ⟨#[]⟩, .slice none 0 0], .int .i64 (cc2 : Int), .int .i64 er2]) (by simp [results, Tryz.f32, go_sem, k0, k1, k2, k3, k4, k5]) rfl Fin.out
                      · obtain rfl : i = nl := by omega
                        have HR := Lib.hid (HEnd.out _ _ (by rw [HL.out.1]; exact hall.out))
                        clear hall HBad HEnd IH
                        obtain ⟨y0, y1, y2, y3, y4, y5, v0, v1, v2, v3, v4, v5⟩ := hlp.out.p6.cells
                        obtain ⟨x0, x1, x2, x3, x4, x5, -⟩ := hlp.out.p12.cells
                        have pk := (hlp.out.p6.put (.slice a1 nf c1) (.string X) (.string Y) (.slice a2 n2 c2) (.string ⟨#[]⟩) (.slice ao nn cap5)).cells
                        unfold putP at pk
                        obtain ⟨k0, k1, k2, k3, k4, k5, _⟩ := pk
                        have Fin : Hid (PartPost13 R w (.returned (.tuple #[.agg #[.slice a1 nf c1, .string X, .string Y, .slice a2 n2 c2, .string ⟨#[]⟩, .slice ao nn cap5], .int .i64 (cnt : Int), .int .i64 0])) (putP wr w.heap.size (.slice a1 nf c1) (.string X) (.string Y) (.slice a2 n2 c2) (.string ⟨#[]⟩) (.slice ao nn cap5))) := Lib.hid (hlp.out.k.good (p := TreeM.mk fs t [] (acc.map fun (x : KidM) => x.1)) hlp.out.r HX.out.1 HX.out.2 rfl rfl rfl HR.out)
                        go_wp2
                        refine bodyPost_ret (v := .tuple #[.agg #[.slice a1 nf c1, .string X, .string Y, .slice a2 n2 c2, .string ⟨#[]⟩, .slice ao nn cap5], .int .i64 (cnt : Int), .int .i64 0]) (by simp [results, Tryz.f32, go_sem, k0, k1, k2, k3, k4, k5]) rfl Fin.out
              · have hci : ((c : Int) != 0) = true := by simpa using (fun e : (c : Int) = 0 => hc0 (by omega))
                have HR : Hid (R = (nilM, n1, 2)) := Lib.hid (by
                  have h := HR1.out
                  rw [if_pos (.inr hc0)] at h
                  exact h.symm)
                clear HR1 hdiv hBl hBDd hbe hc0
                obtain ⟨y0, y1, y2, y3, y4, y5, v0, v1, v2, v3, v4, v5⟩ := K6.out.p6.cells
                have pk := (K6.out.p6.put (.slice none 0 0) (.string ⟨#[]⟩) (.string ⟨#[]⟩) (.slice none 0 0) (.string ⟨#[]⟩) (.slice none 0 0)).cells
                unfold putP at pk
                obtain ⟨k0, k1, k2, k3, k4, k5, _⟩ := pk
                have Fin : Hid (PartPost13 R w (.returned (.tuple #[.agg #[.slice none 0 0, .string ⟨#[]⟩, .string ⟨#[]⟩, .slice none 0 0, .string ⟨#[]⟩, .slice none 0 0], .int .i64 (n1 : Int), .int .i64 2])) (putP w6 w.heap.size (.slice none 0 0) (.string ⟨#[]⟩) (.string ⟨#[]⟩) (.slice none 0 0) (.string ⟨#[]⟩) (.slice none 0 0))) := Lib.hid (bad13 K6.out.b HR.out)
                go_wp2
                refine bodyPost_ret (v := .tuple #[.agg #[.slice none 0 0, .string ⟨#[]⟩, .string ⟨#[]⟩, .slice none 0 0, .string ⟨#[]⟩, .slice none 0 0], .int .i64 (n1 : Int), .int .i64 2]) (by simp [results, Tryz.f32, go_sem, k0, k1, k2, k3, k4, k5]) rfl Fin.out
    · rw [if_pos (by simpa using he)] at hR
      have HR := Lib.hid hR.symm
      have hei : ((er : Int) != 0) = true := by simpa using he
      clear hR ih hsub0 hsub1
      go_enter Tryz.func32, Tryz.ntmps32
      go_wp2_with fail
      refine hpz2.mono ?_
      rintro e w2 ⟨a1, nf, c1, rfl, hx⟩
      have P6 := Lib.hid (P1.out.2.2.below hx.out.2)
      have HB := Lib.hid (P1.out.1.trans (hx.out.2.mono P1.out.1.size))
      clear hpz2 hx P1
      obtain ⟨y0, y1, y2, y3, y4, y5, v0, v1, v2, v3, v4, v5⟩ := P6.out.cells
      have pk := (P6.out.put (.slice none 0 0) (.string ⟨#[]⟩) (.string ⟨#[]⟩) (.slice none 0 0) (.string ⟨#[]⟩) (.slice none 0 0)).cells
      unfold putP at pk
      obtain ⟨k0, k1, k2, k3, k4, k5, _⟩ := pk
      have Fin : Hid (PartPost13 R w (.returned (.tuple #[.agg #[.slice none 0 0, .string ⟨#[]⟩, .string ⟨#[]⟩, .slice none 0 0, .string ⟨#[]⟩, .slice none 0 0], .int .i64 (n1 : Int), .int .i64 er])) (putP w2 w.heap.size (.slice none 0 0) (.string ⟨#[]⟩) (.string ⟨#[]⟩) (.slice none 0 0) (.string ⟨#[]⟩) (.slice none 0 0))) := Lib.hid (bad13 HB.out HR.out)
      go_wp2
      refine bodyPost_ret (v := .tuple #[.agg #[.slice none 0 0, .string ⟨#[]⟩, .string ⟨#[]⟩, .slice none 0 0, .string ⟨#[]⟩, .slice none 0 0], .int .i64 (n1 : Int), .int .i64 er]) (by simp [results, Tryz.f32, go_sem, k0, k1, k2, k3, k4, k5]) rfl Fin.out
end Go.Proofs.YtidlpdiephlkhaaGreatDoor
