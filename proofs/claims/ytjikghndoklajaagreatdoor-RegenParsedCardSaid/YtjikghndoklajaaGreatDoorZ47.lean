/-
  Texts of this proof, put together: RgQ.
-/
import Derived.Test.YtjikghndoklajaaGreatDoorZ42
import Derived.Test.YtjikghndoklajaaGreatDoorZ45
import Derived.Test.YtjikghndoklajaaGreatDoorZ44
import Derived.Test.YtjikghndoklajaaGreatDoorZ46
import Derived.Test.YtjikghndoklajaaGreatDoorZ39
import Derived.Deep.RegionHeldLaw

namespace Go.Proofs.YtjikghndoklajaaGreatDoor
open Go.RowKit

structure MultL (p : TreeM) (w w1 : World) (i : Nat) (kids : List KidM) (v1 v2 : Value) (wr : World) : Prop where
  good : ∀ q ∈ p.parts.take i, (layD q).2 = 0
  kid : kids.map (·.1) = (p.parts.take i).map fun q => (layD q).1.1
  own1 : PartsOwn wr (w.heap.size + 2) v1 kids
  own2 : TextsG wr (w.heap.size + 2) v2 ((p.parts.take i).map fun q => (layD q).1.2)
  kids : KidsP wr (fun g => w.heap.size + 2 ≤ g ∧ v1.ownBlock ≠ some g ∧ v2.ownBlock ≠ some g) kids
  low : Below (w.heap.size + 2) w1 wr
def MultQ (V : World) (u1 u2 : Value) (B : Nat) (fr : Value → Value → Value → Value → Value → Value → Value → Value → Value → Array Value) (kids : List KidM) (ts : List TextH) (e : Exit) (a : Act) (W : World) : Prop := match e with
  | .normal => ∃ v5 v6 x32 x33 x34 x35 x36 x37 x38, a = { tmps := fr v5 v6 x32 x33 x34 x35 x36 x37 x38, defers := [] } ∧ Hid (MultW V u1 u2 B W v5 v6 kids ts)
  | _ => False
theorem TextsG.at {w : World} {B : Nat} {v : Value} {l : List TextH} (h : TextsG w B v l) : TextsAt w w.heap.size v l := by
  rcases h.2 with ⟨rfl, e⟩ | ⟨g, cap, cur, rfl, hb, hg, h1, h3, _⟩
  · have hl : l = [] := List.eq_nil_of_length_eq_zero e
    subst hl
    exact ⟨none, 0, rfl, Nat.le_refl _, by simp [maxLen], fun i hi => absurd hi (by simp)⟩
  · refine ⟨some ⟨g, 0, none⟩, cap, rfl, h1, h3, fun i hi => ?_⟩
    have c1 := World.ownsRow.cells (g := g) h rfl i (.string (textQ l[i])) (by simp [hi])
    rw [Addr.add_lit, Nat.zero_add] at c1
    exact ⟨g, 0, rfl, heap_lt hg, by rw [Nat.zero_add]; exact c1⟩
def lenG (l : List TreeM) : Nat := (l.map fun q => (layD q).1.2).flatten.length

set_option maxRecDepth 100000 in
set_option maxHeartbeats 4000000 in
theorem gmulti_any (B : Nat) (p : TreeM) (fv pv rv : Value) (w : World) (m : Int) (h : TreeAt w B p fv pv rv) (hB : B ≤ w.heap.size) (hne : p.parts ≠ []) (hf : FormD p) (hlim : LimP 90000 p) (hlen : p.parts.length ≤ 100) (ht : PowIs w) (hm : w.cell? ⟨0, 0, none⟩ = some (.int .i64 m))
    (hd : ∀ i (hi : i < p.parts.length) fv pv rv W, TreeAt W B p.parts[i] fv pv rv → Below w.heap.size w W → Calls Tryz.prog 19 #[partV p.parts[i] fv pv rv] W (GLayPost p.parts[i] W)) :
    Calls Tryz.prog 33 #[partV p fv pv rv] w (GLayPost p w) := by
  have HT := Lib.hid h
  obtain ⟨⟨a1, n1, c1, rfl⟩, ⟨a2, n2, c2, rfl⟩, _⟩ := h.slices
  obtain ⟨a3, c3, rfl, hc3, hm3⟩ := h.len
  unfold maxLen at hm3
  obtain ⟨n3, hn3⟩ : ∃ n3, p.parts.length = n3 := ⟨_, rfl⟩
  have hcells := h.r.cells
  rw [hn3] at hc3 HT ⊢
  unfold partV
  obtain ⟨X, hX⟩ : ∃ X, textQ p.typ.1 = X := ⟨_, rfl⟩
  obtain ⟨Y, hY⟩ : ∃ X, textQ p.typ.2.1 = X := ⟨_, rfl⟩
  obtain ⟨D, hD⟩ : ∃ X, textQ p.body = X := ⟨_, rfl⟩
  rw [hX, hY, hD]
  obtain ⟨w1, hw1⟩ : ∃ w1, (w.alloc (.cells #[.slice a1 n1 c1, .string X, .string Y, .slice a2 n2 c2, .string D, .slice a3 n3 c3] 29)).alloc (.cells #[.slice none 0 0, .string ⟨#[]⟩, .string ⟨#[]⟩, .slice none 0 0, .string ⟨#[]⟩, .slice none 0 0, .string ⟨#[]⟩] 43) = w1 := ⟨_, rfl⟩
  have b1 : Below w.heap.size w w1 := by rw [← hw1]; exact ((Below.refl _ _).alloc (Nat.le_refl _) _).alloc (by simp) _
  have z1 : w1.heap.size = w.heap.size + 2 := by rw [← hw1]; simp
  have p1 : PrtAt w1 w.heap.size (.slice a1 n1 c1) (.string X) (.string Y) (.slice a2 n2 c2) (.string D) (.slice a3 n3 c3) := by
    rw [← hw1]
    exact (prt_new w _ _ _ _ _ _).below ((Below.refl _ _).alloc (Nat.le_refl _) _)
  have l1 : LdAt w1 (w.heap.size + 1) (.slice none 0 0) (.string ⟨#[]⟩) (.string ⟨#[]⟩) (.slice none 0 0) (.string ⟨#[]⟩) (.slice none 0 0) (.string ⟨#[]⟩) := by
    rw [← hw1]
    have := ld_new (w.alloc (.cells #[.slice a1 n1 c1, .string X, .string Y, .slice a2 n2 c2, .string D, .slice a3 n3 c3] 29)) (.slice none 0 0) (.string ⟨#[]⟩) (.string ⟨#[]⟩) (.slice none 0 0) (.string ⟨#[]⟩) (.slice none 0 0) (.string ⟨#[]⟩)
    rw [World.size_alloc] at this
    exact this
  obtain ⟨y0, y1, y2, y3, y4, y5, _⟩ := p1.cells
  have K1 := Lib.hid (And.intro b1 (And.intro p1 (And.intro l1 z1)))
  have HXY := Lib.hid (And.intro hX (And.intro hY hD))
  have HM := Lib.hid (And.intro hm ht)
  have HF := Lib.hid (And.intro hf (And.intro hlim hne))
  have Hc := Lib.hid hcells
  have HB := Lib.hid hB
  have HD := Lib.hid hd
  have HN := Lib.hid hn3
  have L1 : Hid (MultL p w w1 0 [] (.slice none 0 0) (.slice none 0 0) w1) := Lib.hid ⟨fun q hq => (by cases hq), rfl, World.ownsRow_nil _ _ _ _, World.ownsRow_nil _ _ _ _, kids_nil _ _, Below.refl _ _⟩
  rw [hn3] at hlen
  clear h hcells b1 p1 l1 z1 hX hY hD hm ht hf hlim hne hB hd hn3
  go_enter Tryz.func33, Tryz.ntmps33
  go_wp2
  clear y0 y1 y2 y3 y4 y5
  go_loopw [4, 5, 6, 16] (fun v1 v2 lv iv wr => ∃ (i : Nat) (kids : List KidM) (L : Nat), i ≤ n3 ∧ L ≤ 16384 * i ∧ iv = .int .i64 i ∧ lv = .int .i64 (L : Int) ∧ Hid (lenG (p.parts.take i) = L) ∧ Hid (MultL p w w1 i kids v1 v2 wr)) (fun _ _ _ iv _ => n3 - (intOf iv).toNat)
  case atStart => exact ⟨0, [], 0, by omega, by omega, rfl, rfl, Lib.hid rfl, L1⟩
  case round =>
    clear L1
    obtain ⟨i, kids, L, hi, hL, rfl, rfl, hLL, hk⟩ := hrel
    by_cases hlt : i < n3
    · have hil : i < p.parts.length := by rw [HN.out]; exact hlt
      obtain ⟨g, off, fv', pv', rv', rfl, hgB, z0, z1, z2, z3, z4, z5, hq⟩ := Hc.out i hil
      have bwr : Below w.heap.size w wr := K1.out.1.trans (hk.out.low.mono (by omega))
      have hB := HB.out
      have hgw : g < w.heap.size := Nat.lt_of_lt_of_le hgB hB
      replace z0 := (bwr.cell (p := ⟨g, off + i * 6, none⟩) hgw).trans z0
      replace z1 := (bwr.cell (p := ⟨g, off + i * 6 + 1, none⟩) hgw).trans z1
      replace z2 := (bwr.cell (p := ⟨g, off + i * 6 + 2, none⟩) hgw).trans z2
      replace z3 := (bwr.cell (p := ⟨g, off + i * 6 + 3, none⟩) hgw).trans z3
      replace z4 := (bwr.cell (p := ⟨g, off + i * 6 + 4, none⟩) hgw).trans z4
      replace z5 := (bwr.cell (p := ⟨g, off + i * 6 + 5, none⟩) hgw).trans z5
      obtain ⟨⟨b1, k1, d1, rfl⟩, ⟨b2, k2, d2, rfl⟩, ⟨b3, k3, d3, rfl⟩⟩ := hq.slices
      have hd6 := fun W (hW : Below w.heap.size w W) => HD.out i hil _ _ _ W (hq.below hW hB) hW
      have hlay := Lib.hid (And.intro (fun h => lay_multi_bad (p := p) i hil hk.out.good h) (List.take_succ_eq_append_getElem hil))
      have hbo : (layD p.parts[i]).2 = 0 → (layD p.parts[i]).1.2.length ≤ 16384 := fun he => by
        have hfq := form_mem ((form_eq p).1 HF.out.1).2.2.2.2 _ (List.getElem_mem hil)
        rcases layd_says _ hfq with h3 | ⟨_, _, h3⟩
        · rw [h3] at he
          cases he
        · exact h3
      obtain ⟨q, hqq⟩ : ∃ q, p.parts[i] = q := ⟨_, rfl⟩
      rw [hqq] at z1 z2 z4 hd6 hlay hbo
      unfold partV at hd6
      obtain ⟨X', hX'⟩ : ∃ X, textQ q.typ.1 = X := ⟨_, rfl⟩
      obtain ⟨Y', hY'⟩ : ∃ X, textQ q.typ.2.1 = X := ⟨_, rfl⟩
      obtain ⟨D', hD'⟩ : ∃ X, textQ q.body = X := ⟨_, rfl⟩
      rw [hX'] at z1
      rw [hY'] at z2
      rw [hD'] at z4
      simp only [hX', hY', hD'] at hd6
      obtain ⟨w6, hw6⟩ : ∃ w6, wr.alloc (.cells #[.slice b1 k1 d1, .string X', .string Y', .slice b2 k2 d2, .string D', .slice b3 k3 d3] 29) = w6 := ⟨_, rfl⟩
      have b6 : Below wr.heap.size wr w6 := by rw [← hw6]; exact (Below.refl _ _).alloc (Nat.le_refl _) _
      have p6 : PrtAt w6 wr.heap.size (.slice b1 k1 d1) (.string X') (.string Y') (.slice b2 k2 d2) (.string D') (.slice b3 k3 d3) := by rw [← hw6]; exact prt_new wr _ _ _ _ _ _
      obtain ⟨x0, x1, x2, x3, x4, x5, _⟩ := p6.cells
      have hcall := hd6 w6 (bwr.trans (b6.mono bwr.size))
      have K6 := Lib.hid (And.intro b6 p6)
      clear hd6 b6 p6 hX' hY' hD' hqq hq hgB hgw hB hil bwr
      by_cases he : (layD q).2 = 0
      · obtain ⟨c, hc⟩ : ∃ c, (layD q).1.1 = c := ⟨_, rfl⟩
        obtain ⟨s, hs⟩ : ∃ s, (layD q).1.2 = s := ⟨_, rfl⟩
        have hbo := hbo he
        rw [hs] at hbo
        obtain ⟨QX, hQX⟩ : ∃ QX, textQ c.typ.1 = QX := ⟨_, rfl⟩
        obtain ⟨QY, hQY⟩ : ∃ QY, textQ c.typ.2.1 = QY := ⟨_, rfl⟩
        obtain ⟨QD, hQD⟩ : ∃ QD, textQ c.body = QD := ⟨_, rfl⟩
        obtain ⟨QS, hQS⟩ : ∃ QS, textQ s = QS := ⟨_, rfl⟩
        have hss : QS.size = s.length := by rw [← hQS]; rfl
        have hcall2 : Calls Tryz.prog 19 #[.agg #[.slice b1 k1 d1, .string X', .string Y', .slice b2 k2 d2, .string D', .slice b3 k3 d3]] w6 fun e w' => ∃ a5 n5 q5 a6 n6 q6 a7 n7 q7, e = .returned (.tuple #[.agg #[.slice a5 n5 q5, .string QX, .string QY, .slice a6 n6 q6, .string QD, .slice a7 n7 q7, .string QS], .int .i64 0]) ∧ Hid (Below w6.heap.size w6 w' ∧ TreeP w' (fun g => w6.heap.size ≤ g) c (.slice a5 n5 q5) (.slice a6 n6 q6) (.slice a7 n7 q7)) := hcall.mono fun e w' ⟨h1, h2, _⟩ => by
          obtain ⟨fv, pv, rv, h3, h4⟩ := h2 he
          rw [hc, hs] at h3
          rw [hc] at h4
          obtain ⟨⟨a5, n5, q5, rfl⟩, ⟨a6, n6, q6, rfl⟩, ⟨a7, n7, q7, rfl⟩⟩ := h4.slices
          exact ⟨_, _, _, _, _, _, _, _, _, by rw [h3]; unfold laidV; rw [hQX, hQY, hQD, hQS], Lib.hid ⟨h1, h4⟩⟩
        have HQ := Lib.hid (And.intro hQX (And.intro hQY (And.intro hQD (And.intro hQS (And.intro he (And.intro hc (And.intro hs hbo)))))))
        clear hcall hQX hQY hQD hQS he hc hs hbo
        go_wp2_with fail
        refine hcall2.mono ?_
        rintro e w7 ⟨a5, n5, q5, a6, n6, q6, a7, n7, q7, rfl, hx⟩
        obtain ⟨V, hV⟩ : ∃ V, w7.alloc (.cells #[.slice a5 n5 q5, .string QX, .string QY, .slice a6 n6 q6, .string QD, .slice a7 n7 q7, .string QS] 43) = V := ⟨_, rfl⟩
        have bV : Below w7.heap.size w7 V := by rw [← hV]; exact (Below.refl _ _).alloc (Nat.le_refl _) _
        have lV : LdAt V w7.heap.size (.slice a5 n5 q5) (.string QX) (.string QY) (.slice a6 n6 q6) (.string QD) (.slice a7 n7 q7) (.string QS) := by rw [← hV]; exact ld_new w7 _ _ _ _ _ _ _
        obtain ⟨m0, m1, m2, m3, m4, m5, m6, _⟩ := lV.cells
        have KV := Lib.hid (And.intro bV lV)
        clear hcall2 x0 x1 x2 x3 x4 x5 z0 z1 z2 z3 z4 z5 bV lV
        have hown : ∀ g, (u4.ownBlock = some g ∨ u5.ownBlock = some g) → w.heap.size + 2 ≤ g ∧ g < wr.heap.size := fun g hg => hg.elim (fun e => hk.out.own1.lt g e) (fun e => hk.out.own2.lt g e)
        have bwV : Below wr.heap.size wr V := K6.out.1.trans ((hx.out.1.trans (KV.out.1.mono hx.out.1.size)).mono K6.out.1.size)
        have hNV := KV.out.2.lt
        have hw7 : wr.heap.size ≤ w7.heap.size := Nat.le_trans K6.out.1.size hx.out.1.size
        have M0 := Lib.hid (MultW.start (own_belowG hk.out.own1 bwV) (own_belowG hk.out.own2 bwV))
        have KS : Hid (∀ W v1' v2' kids' ts', MultW V u4 u5 (w.heap.size + 2) W v1' v2' kids' ts' → W.cell? ⟨w7.heap.size, 0, none⟩ = some (.slice a5 n5 q5) ∧ W.cell? ⟨w7.heap.size, 1, none⟩ = some (.string QX) ∧ W.cell? ⟨w7.heap.size, 2, none⟩ = some (.string QY) ∧ W.cell? ⟨w7.heap.size, 3, none⟩ = some (.slice a6 n6 q6) ∧ W.cell? ⟨w7.heap.size, 4, none⟩ = some (.string QD) ∧ W.cell? ⟨w7.heap.size, 5, none⟩ = some (.slice a7 n7 q7) ∧ W.cell? ⟨w7.heap.size, 6, none⟩ = some (.string QS)) := Lib.hid fun W v1' v2' kids' ts' hM => by
          have hb := hM.block (fun g hg => (hown g hg).1) hNV (.inr ⟨fun e => by have := (hown _ (.inl e)).2; omega, fun e => by have := (hown _ (.inr e)).2; omega⟩)
          obtain ⟨t0, t1, t2, t3, t4, t5, t6, _⟩ := (show LdAt W w7.heap.size (.slice a5 n5 q5) (.string QX) (.string QY) (.slice a6 n6 q6) (.string QD) (.slice a7 n7 q7) (.string QS) from hb.trans KV.out.2).cells
          exact ⟨t0, t1, t2, t3, t4, t5, t6⟩
        have hkl : kids.length = i := by
          have e := congrArg List.length hk.out.kid
          rw [List.length_map, List.length_map, List.length_take, HN.out] at e
          omega
        have HV := Lib.hid (And.intro (show kids.length ≤ 1000000 by omega) (show w.heap.size + 2 ≤ V.heap.size by have := K1.out.2.2.2; have := hk.out.low.size; omega))
        have HL := Lib.hid (show (p.parts.take i).length ≤ 1000000 by rw [List.length_take]; omega)
        have HW := Lib.hid (And.intro hown (And.intro bwV (And.intro hNV (And.intro hw7 hkl))))
        have PK : Hid (∀ W : World, W.heap[V.heap.size]? = (V.alloc (.cells #[.slice a5 n5 q5, .string QX, .string QY, .slice a6 n6 q6, .string QD, .slice a7 n7 q7] 29)).heap[V.heap.size]? → ∀ j, j < 6 → W.cell? ⟨V.heap.size, j, none⟩ = (kidCells (c, .slice a5 n5 q5, .slice a6 n6 q6, .slice a7 n7 q7))[j]?) := Lib.hid fun W hW j hj =>
          prt_kid (show PrtAt W V.heap.size (.slice a5 n5 q5) (.string QX) (.string QY) (.slice a6 n6 q6) (.string QD) (.slice a7 n7 q7) from hW.trans (prt_new V _ _ _ _ _ _)) HQ.out.1 HQ.out.2.1 HQ.out.2.2.1 j hj
        have PK2 : Hid (∀ j, j < 6 → (((V.alloc (.cells #[.string QS] 9)).alloc (.cells #[.slice a5 n5 q5, .string QX, .string QY, .slice a6 n6 q6, .string QD, .slice a7 n7 q7] 29)).drew).cell? ⟨V.heap.size + 1, j, none⟩ = (kidCells (c, .slice a5 n5 q5, .slice a6 n6 q6, .slice a7 n7 q7))[j]?) := Lib.hid fun j hj =>
          prt_kid (show PrtAt ((V.alloc (.cells #[.string QS] 9)).alloc (.cells #[.slice a5 n5 q5, .string QX, .string QY, .slice a6 n6 q6, .string QD, .slice a7 n7 q7] 29)) (V.heap.size + 1) (.slice a5 n5 q5) (.string QX) (.string QY) (.slice a6 n6 q6) (.string QD) (.slice a7 n7 q7) by
            have h := prt_new (V.alloc (.cells #[.string QS] 9)) (.slice a5 n5 q5) (.string QX) (.string QY) (.slice a6 n6 q6) (.string QD) (.slice a7 n7 q7)
            rw [World.size_alloc] at h
            exact h) HQ.out.1 HQ.out.2.1 HQ.out.2.2.1 j hj
        have C2 : Hid ((((V.alloc (.cells #[.slice a5 n5 q5, .string QX, .string QY, .slice a6 n6 q6, .string QD, .slice a7 n7 q7] 29)).alloc (.cells #[.string QS] 9)).drew).heap[V.heap.size + 1]? = some (.cells #[.string QS] 9 (0, 0)) ∧ V.heap.size + 1 < (((V.alloc (.cells #[.slice a5 n5 q5, .string QX, .string QY, .slice a6 n6 q6, .string QD, .slice a7 n7 q7] 29)).alloc (.cells #[.string QS] 9)).drew).heap.size) := Lib.hid (by
          have h := heap_alloc_new (V.alloc (.cells #[.slice a5 n5 q5, .string QX, .string QY, .slice a6 n6 q6, .string QD, .slice a7 n7 q7] 29)) (.cells #[.string QS] 9)
          rw [World.size_alloc] at h
          exact ⟨h, by show _ < ((V.alloc (.cells #[.slice a5 n5 q5, .string QX, .string QY, .slice a6 n6 q6, .string QD, .slice a7 n7 q7] 29)).alloc (.cells #[.string QS] 9)).heap.size; rw [World.size_alloc, World.size_alloc]; omega⟩)
        have C3 : Hid ((((V.alloc (.cells #[.string QS] 9)).alloc (.cells #[.slice a5 n5 q5, .string QX, .string QY, .slice a6 n6 q6, .string QD, .slice a7 n7 q7] 29)).drew).heap[V.heap.size]? = some (.cells #[.string QS] 9 (0, 0)) ∧ V.heap.size < (((V.alloc (.cells #[.string QS] 9)).alloc (.cells #[.slice a5 n5 q5, .string QX, .string QY, .slice a6 n6 q6, .string QD, .slice a7 n7 q7] 29)).drew).heap.size) := Lib.hid (by
          have h := heap_alloc_new V (.cells #[.string QS] 9)
          exact ⟨(Below.heap_alloc (V.alloc (.cells #[.string QS] 9)) (.cells #[.slice a5 n5 q5, .string QX, .string QY, .slice a6 n6 q6, .string QD, .slice a7 n7 q7] 29) V.heap.size (by rw [World.size_alloc]; omega)).trans h, by show _ < ((V.alloc (.cells #[.string QS] 9)).alloc (.cells #[.slice a5 n5 q5, .string QX, .string QY, .slice a6 n6 q6, .string QD, .slice a7 n7 q7] 29)).heap.size; rw [World.size_alloc, World.size_alloc]; omega⟩)
        clear hown bwV hNV hw7 hkl
        go_wp2_with fail
        refine Code.wp_mono (Q := MultQ V u4 u5 (w.heap.size + 2) (fun v5 v6 x32 x33 x34 x35 x36 x37 x38 => #[.agg #[.slice a1 n1 c1, .string X, .string Y, .slice a2 n2 c2, .string D, .slice (some ⟨g, off, none⟩) n3 c3], .pointer (some ⟨w.heap.size, 0, none⟩), .pointer (some ⟨w.heap.size + 1, 0, none⟩), u3, v5, v6, .int .i64 (L : Int), undef, .pointer (some ⟨wr.heap.size, 0, none⟩), .pointer (some ⟨w7.heap.size, 0, none⟩), .int .i64 0, undef, undef, .pointer (some ⟨w.heap.size, 5, none⟩), .slice (some ⟨g, off, none⟩) n3 c3, .int .i64 (n3 : Int), .int .i64 (i : Int), .bool true, .pointer (some ⟨g, off + i * 6, none⟩), .agg #[.slice b1 k1 d1, .string X', .string Y', .slice b2 k2 d2, .string D', .slice b3 k3 d3], .tuple #[.agg #[.slice a5 n5 q5, .string QX, .string QY, .slice a6 n6 q6, .string QD, .slice a7 n7 q7, .string QS], .int .i64 0], .agg #[.slice b1 k1 d1, .string X', .string Y', .slice b2 k2 d2, .string D', .slice b3 k3 d3], .tuple #[.agg #[.slice a5 n5 q5, .string QX, .string QY, .slice a6 n6 q6, .string QD, .slice a7 n7 q7, .string QS], .int .i64 0], .agg #[.slice a5 n5 q5, .string QX, .string QY, .slice a6 n6 q6, .string QD, .slice a7 n7 q7, .string QS], .int .i64 0, .int .i64 0, .bool false, u27, u28, u4, .pointer (some ⟨w7.heap.size, 0, none⟩), .agg #[.slice a5 n5 q5, .string QX, .string QY, .slice a6 n6 q6, .string QD, .slice a7 n7 q7], x32, x33, x34, x35, x36, x37, x38, u39, u40, u41, u42, u43, u44, undef, undef, undef, undef, undef, undef, undef, undef, undef, undef, undef, undef, undef, undef, undef, undef, undef, undef, undef, undef, undef, undef, undef, undef]) (kids ++ [(c, .slice a5 n5 q5, .slice a6 n6 q6, .slice a7 n7 q7)]) (((p.parts.take i).map fun q => (layD q).1.2) ++ [s])) ?himp ?hreg
        case hreg =>
          refine wp_region_held_drew (S := (fun W => W.cell? ⟨w7.heap.size, 0, none⟩ = some (.slice a5 n5 q5) ∧ W.cell? ⟨w7.heap.size, 1, none⟩ = some (.string QX) ∧ W.cell? ⟨w7.heap.size, 2, none⟩ = some (.string QY) ∧ W.cell? ⟨w7.heap.size, 3, none⟩ = some (.slice a6 n6 q6) ∧ W.cell? ⟨w7.heap.size, 4, none⟩ = some (.string QD) ∧ W.cell? ⟨w7.heap.size, 5, none⟩ = some (.slice a7 n7 q7) ∧ W.cell? ⟨w7.heap.size, 6, none⟩ = some (.string QS))) (by kernel_rfl) (KS.out _ _ _ _ _ M0.out.drew) (fun hHeld => ?_)
          refine' wpAnyH_take (i := 0) (v := ?v0y) ?hi0y (by kernel_rfl) (by kernel_rfl) (by kernel_rfl) ?hq0y (Or.inl ⟨?hw0y, ?hy0y⟩) (by assumption) ?hr0y
          case hi0y => (simp only [List.getElem?_toArray, List.getElem?_cons_zero]; exact rfl)
          case hq0y => exact fun _ _ _ h => h
          case hw0y => rfl
          case hy0y =>
            intro wz hz
            (try dsimp only at hz)
            go_simp
            all_goals with_reducible rfl
          try simp only [Act.put, List.setIfInBounds_toArray, List.set_cons_zero, List.set_cons_succ]
          refine' wpAnyH_take (i := 1) (v := ?v1y) ?hi1y (by kernel_rfl) (by kernel_rfl) (by kernel_rfl) ?hq1y (Or.inl ⟨?hw1y, ?hy1y⟩) (by assumption) ?hr1y
          case hi1y => (simp only [List.getElem?_toArray, List.getElem?_cons_zero, List.getElem?_cons_succ]; exact rfl)
          case hq1y => exact fun _ _ _ h => h
          case hw1y => rfl
          case hy1y =>
            intro wz hz
            (try dsimp only at hz)
            go_simp
            all_goals with_reducible rfl
          try simp only [Act.put, List.setIfInBounds_toArray, List.set_cons_zero, List.set_cons_succ]
          refine' wpAnyH_take (i := 2) (v := ?v2y) ?hi2y (by kernel_rfl) (by kernel_rfl) (by kernel_rfl) ?hq2y (Or.inl ⟨?hw2y, ?hy2y⟩) (by assumption) ?hr2y
          case hi2y => (simp only [List.getElem?_toArray, List.getElem?_cons_zero, List.getElem?_cons_succ]; exact rfl)
          case hq2y => exact fun _ _ _ h => h
          case hw2y => rfl
          case hy2y =>
            intro wz hz
            (try dsimp only at hz)
            go_simp
            all_goals with_reducible rfl
          try simp only [Act.put, List.setIfInBounds_toArray, List.set_cons_zero, List.set_cons_succ]
          refine' wpAnyH_take (i := 5) (v := ?v5y) ?hi5y (by kernel_rfl) (by kernel_rfl) (by kernel_rfl) ?hq5y (Or.inl ⟨?hw5y, ?hy5y⟩) (by assumption) ?hr5y
          case hi5y => (simp only [List.getElem?_toArray, List.getElem?_cons_zero, List.getElem?_cons_succ]; exact rfl)
          case hq5y => exact fun _ _ _ h => h
          case hw5y => rfl
          case hy5y =>
            intro wz hz
            (try dsimp only at hz)
            go_simp
            all_goals with_reducible rfl
          try simp only [Act.put, List.setIfInBounds_toArray, List.set_cons_zero, List.set_cons_succ]
          refine' wpAnyH_take (i := 6) (v := ?v6y) ?hi6y (by kernel_rfl) (by kernel_rfl) (by kernel_rfl) ?hq6y (Or.inl ⟨?hw6y, ?hy6y⟩) (by assumption) ?hr6y
          case hi6y => (simp only [List.getElem?_toArray, List.getElem?_cons_zero, List.getElem?_cons_succ]; exact rfl)
          case hq6y => exact fun _ _ _ h => h
          case hw6y => rfl
          case hy6y =>
            intro wz hz
            (try dsimp only at hz)
            go_simp
            all_goals with_reducible rfl
          try simp only [Act.put, List.setIfInBounds_toArray, List.set_cons_zero, List.set_cons_succ]
          refine' wpAnyH_take (i := 7) (v := ?v7y) ?hi7y (by kernel_rfl) (by kernel_rfl) (by kernel_rfl) ?hq7y (Or.inl ⟨?hw7y, ?hy7y⟩) (by assumption) ?hr7y
          case hi7y => (simp only [List.getElem?_toArray, List.getElem?_cons_zero, List.getElem?_cons_succ]; exact rfl)
          case hq7y => exact fun _ _ _ h => h
          case hw7y => rfl
          case hy7y =>
            intro wz hz
            (try dsimp only at hz)
            go_simp
            all_goals with_reducible rfl
          try simp only [Act.put, List.setIfInBounds_toArray, List.set_cons_zero, List.set_cons_succ]
          refine wpAnyH_ready (rs := [3, 8]) (by kernel_rfl) (by simp) ?_
          refine AllReadyH.cons (o := ?hoA) ?hioA (fun KA hKA => ?hsA) ?hmA
          case hioA => (simp only [List.getElem?_toArray, List.getElem?_cons_zero, List.getElem?_cons_succ]; exact rfl)
          case hsA =>
            go_simp
            have MA := Lib.hid (M0.out.alloc (.cells #[.slice a5 n5 q5, .string QX, .string QY, .slice a6 n6 q6, .string QD, .slice a7 n7 q7] 29)).drew
            refine hKA.out _ _ (KS.out _ _ _ _ _ MA.out) (fun hHeldA => ?_)
            try simp only [Act.put, List.setIfInBounds_toArray, List.set_cons_zero, List.set_cons_succ]
            refine wpAnyH_ready (rs := [4, 8]) (by kernel_rfl) (by simp) ?_
            refine AllReadyH.cons (o := ?hoB) ?hioB (fun KB hKB => ?hsB) ?hmB
            case hioB => (simp only [List.getElem?_toArray, List.getElem?_cons_zero, List.getElem?_cons_succ]; exact rfl)
            case hsB =>
              refine step_partG rfl _ _ rfl (w.heap.size + 2) u4 kids (c, .slice a5 n5 q5, .slice a6 n6 q6, .slice a7 n7 q7) rfl (MA.out.own1) (Nat.le_trans HV.out.2 MA.out.size) HV.out.1 _ 1 rfl (fun j hj => PK.out _ rfl j hj) rfl rfl rfl ?_
              intro v5 w8 ho8 hg8 hv8
              have N8 := Lib.hid (MA.out.app1 ho8 hg8 hv8)
              refine hKB.out _ _ (KS.out _ _ _ _ _ N8.out) (fun hHeldB => ?_)
              try simp only [Act.put, List.setIfInBounds_toArray, List.set_cons_zero, List.set_cons_succ]
              refine wpAnyH_ready (rs := [8]) (by kernel_rfl) (by simp) ?_
              refine AllReadyH.cons (o := ?hoC) ?hioC (fun KC hKC => ?hsC) AllReadyH.nil
              case hioC => (simp only [List.getElem?_toArray, List.getElem?_cons_zero, List.getElem?_cons_succ]; exact rfl)
              case hsC =>
                go_simp
                have MC := Lib.hid (N8.out.alloc (.cells #[.string QS] 9))
                refine hKC.out _ _ (KS.out _ _ _ _ _ MC.out) (fun hHeldC => ?_)
                try simp only [Act.put, List.setIfInBounds_toArray, List.set_cons_zero, List.set_cons_succ]
                refine wpAnyH_ready (rs := [9]) (by kernel_rfl) (by simp) ?_
                refine AllReadyH.cons (o := ?hoD) ?hioD (fun KD hKD => ?hsD) AllReadyH.nil
                case hioD => (simp only [List.getElem?_toArray, List.getElem?_cons_zero, List.getElem?_cons_succ]; exact rfl)
                case hsD =>
                  refine step_textG rfl _ _ rfl (w.heap.size + 2) u5 _ s rfl (MC.out.own2) (Nat.le_trans HV.out.2 MC.out.size) (by rw [List.length_map]; exact HL.out) _ 1 rfl (by rw [HQ.out.2.2.2.1]; exact Lib.cell_of_heap (heap_alloc_new w8 _) 0) ?_
                  intro v6 w9 ho9 hg9 hv9
                  have N9 := Lib.hid (MC.out.app2 ho9 hg9 hv9)
                  refine hKD.out _ _ (KS.out _ _ _ _ _ N9.out) (fun hHeldD => ?_)
                  try simp only [Act.put, List.setIfInBounds_toArray, List.set_cons_zero, List.set_cons_succ]
                  refine' wpAnyH_take (i := 10) (v := ?v10D) ?hi10D (by kernel_rfl) (by kernel_rfl) (by kernel_rfl) ?hq10D (Or.inl ⟨?hw10D, ?hy10D⟩) (by assumption) ?hr10D
                  case hi10D => (simp only [List.getElem?_toArray, List.getElem?_cons_zero, List.getElem?_cons_succ]; exact rfl)
                  case hq10D => exact fun _ _ _ h => h
                  case hw10D => rfl
                  case hy10D =>
                    intro wz hz
                    (try dsimp only at hz)
                    go_simp
                    all_goals with_reducible rfl
                  try simp only [Act.put, List.setIfInBounds_toArray, List.set_cons_zero, List.set_cons_succ]
                  refine' wpAnyH_take (i := 11) (v := ?v11D) ?hi11D (by kernel_rfl) (by kernel_rfl) (by kernel_rfl) ?hq11D (Or.inl ⟨?hw11D, ?hy11D⟩) (by assumption) ?hr11D
                  case hi11D => (simp only [List.getElem?_toArray, List.getElem?_cons_zero, List.getElem?_cons_succ]; exact rfl)
                  case hq11D => exact fun _ _ _ h => h
                  case hw11D => rfl
                  case hy11D =>
                    intro wz hz
                    (try dsimp only at hz)
                    go_simp
                    all_goals with_reducible rfl
                  try simp only [Act.put, List.setIfInBounds_toArray, List.set_cons_zero, List.set_cons_succ]
                  refine wpAnyH_done (by kernel_rfl) ?_ _
                  exact ⟨v5, v6, _, _, _, _, _, _, _, rfl, N9⟩
            case hmB =>
              refine AllReadyH.cons (o := ?hoE) ?hioE (fun KE hKE => ?hsE) AllReadyH.nil
              case hioE => (simp only [List.getElem?_toArray, List.getElem?_cons_zero, List.getElem?_cons_succ]; exact rfl)
              case hsE =>
                go_simp
                have ME := Lib.hid ((M0.out.alloc (.cells #[.slice a5 n5 q5, .string QX, .string QY, .slice a6 n6 q6, .string QD, .slice a7 n7 q7] 29)).alloc (.cells #[.string QS] 9)).drew
                refine hKE.out _ _ (KS.out _ _ _ _ _ ME.out) (fun hHeldE => ?_)
                try simp only [Act.put, List.setIfInBounds_toArray, List.set_cons_zero, List.set_cons_succ]
                refine wpAnyH_ready (rs := [4]) (by kernel_rfl) (by simp) ?_
                refine AllReadyH.cons (o := ?hoF) ?hioF (fun KF hKF => ?hsF) AllReadyH.nil
                case hioF => (simp only [List.getElem?_toArray, List.getElem?_cons_zero, List.getElem?_cons_succ]; exact rfl)
                case hsF =>
                  refine step_partG rfl _ _ rfl (w.heap.size + 2) u4 kids (c, .slice a5 n5 q5, .slice a6 n6 q6, .slice a7 n7 q7) rfl (ME.out.own1) (Nat.le_trans HV.out.2 ME.out.size) HV.out.1 _ 1 rfl (fun j hj => PK.out _ (Below.heap_alloc _ _ _ (by rw [World.size_alloc]; omega)) j hj) rfl rfl rfl ?_
                  intro v5 w8 ho8 hg8 hv8
                  have N8 := Lib.hid (ME.out.app1 ho8 hg8 hv8)
                  refine hKF.out _ _ (KS.out _ _ _ _ _ N8.out) (fun hHeldF => ?_)
                  try simp only [Act.put, List.setIfInBounds_toArray, List.set_cons_zero, List.set_cons_succ]
                  refine wpAnyH_ready (rs := [9]) (by kernel_rfl) (by simp) ?_
                  refine AllReadyH.cons (o := ?hoG) ?hioG (fun KG hKG => ?hsG) AllReadyH.nil
                  case hioG => (simp only [List.getElem?_toArray, List.getElem?_cons_zero, List.getElem?_cons_succ]; exact rfl)
                  case hsG =>
                    refine step_textG rfl _ _ rfl (w.heap.size + 2) u5 _ s rfl (N8.out.own2) (Nat.le_trans HV.out.2 N8.out.size) (by rw [List.length_map]; exact HL.out) _ 1 rfl (by rw [HQ.out.2.2.2.1]; exact Lib.cell_of_heap ((hg8.block _ (by have := C2.out.2; exact this) (fun e => by have := (HW.out.1 _ (.inl e.symm)).2; have := HW.out.2.1.size; omega)).trans C2.out.1) 0) ?_
                    intro v6 w9 ho9 hg9 hv9
                    have N9 := Lib.hid (N8.out.app2 ho9 hg9 hv9)
                    refine hKG.out _ _ (KS.out _ _ _ _ _ N9.out) (fun hHeldG => ?_)
                    try simp only [Act.put, List.setIfInBounds_toArray, List.set_cons_zero, List.set_cons_succ]
                    refine' wpAnyH_take (i := 10) (v := ?v10G) ?hi10G (by kernel_rfl) (by kernel_rfl) (by kernel_rfl) ?hq10G (Or.inl ⟨?hw10G, ?hy10G⟩) (by assumption) ?hr10G
                    case hi10G => (simp only [List.getElem?_toArray, List.getElem?_cons_zero, List.getElem?_cons_succ]; exact rfl)
                    case hq10G => exact fun _ _ _ h => h
                    case hw10G => rfl
                    case hy10G =>
                      intro wz hz
                      (try dsimp only at hz)
                      go_simp
                      all_goals with_reducible rfl
                    try simp only [Act.put, List.setIfInBounds_toArray, List.set_cons_zero, List.set_cons_succ]
                    refine' wpAnyH_take (i := 11) (v := ?v11G) ?hi11G (by kernel_rfl) (by kernel_rfl) (by kernel_rfl) ?hq11G (Or.inl ⟨?hw11G, ?hy11G⟩) (by assumption) ?hr11G
                    case hi11G => (simp only [List.getElem?_toArray, List.getElem?_cons_zero, List.getElem?_cons_succ]; exact rfl)
                    case hq11G => exact fun _ _ _ h => h
                    case hw11G => rfl
                    case hy11G =>
                      intro wz hz
                      (try dsimp only at hz)
                      go_simp
                      all_goals with_reducible rfl
                    try simp only [Act.put, List.setIfInBounds_toArray, List.set_cons_zero, List.set_cons_succ]
                    refine wpAnyH_done (by kernel_rfl) ?_ _
                    exact ⟨v5, v6, _, _, _, _, _, _, _, rfl, N9⟩
          case hmA =>
            refine AllReadyH.cons (o := ?hoH) ?hioH (fun KH hKH => ?hsH) AllReadyH.nil
            case hioH => (simp only [List.getElem?_toArray, List.getElem?_cons_zero, List.getElem?_cons_succ]; exact rfl)
            case hsH =>
              go_simp
              have MH := Lib.hid (M0.out.alloc (.cells #[.string QS] 9)).drew
              refine hKH.out _ _ (KS.out _ _ _ _ _ MH.out) (fun hHeldH => ?_)
              try simp only [Act.put, List.setIfInBounds_toArray, List.set_cons_zero, List.set_cons_succ]
              refine wpAnyH_ready (rs := [3]) (by kernel_rfl) (by simp) ?_
              refine AllReadyH.cons (o := ?hoI) ?hioI (fun KI hKI => ?hsI) AllReadyH.nil
              case hioI => (simp only [List.getElem?_toArray, List.getElem?_cons_zero, List.getElem?_cons_succ]; exact rfl)
              case hsI =>
                go_simp
                have MI := Lib.hid ((M0.out.alloc (.cells #[.string QS] 9)).alloc (.cells #[.slice a5 n5 q5, .string QX, .string QY, .slice a6 n6 q6, .string QD, .slice a7 n7 q7] 29)).drew
                refine hKI.out _ _ (KS.out _ _ _ _ _ MI.out) (fun hHeldI => ?_)
                try simp only [Act.put, List.setIfInBounds_toArray, List.set_cons_zero, List.set_cons_succ]
                refine wpAnyH_ready (rs := [4]) (by kernel_rfl) (by simp) ?_
                refine AllReadyH.cons (o := ?hoJ) ?hioJ (fun KJ hKJ => ?hsJ) AllReadyH.nil
                case hioJ => (simp only [List.getElem?_toArray, List.getElem?_cons_zero, List.getElem?_cons_succ]; exact rfl)
                case hsJ =>
                  refine step_partG rfl _ _ rfl (w.heap.size + 2) u4 kids (c, .slice a5 n5 q5, .slice a6 n6 q6, .slice a7 n7 q7) rfl (MI.out.own1) (Nat.le_trans HV.out.2 MI.out.size) HV.out.1 _ 1 rfl (fun j hj => PK2.out j hj) rfl rfl rfl ?_
                  intro v5 w8 ho8 hg8 hv8
                  have N8 := Lib.hid (MI.out.app1 ho8 hg8 hv8)
                  refine hKJ.out _ _ (KS.out _ _ _ _ _ N8.out) (fun hHeldJ => ?_)
                  try simp only [Act.put, List.setIfInBounds_toArray, List.set_cons_zero, List.set_cons_succ]
                  refine wpAnyH_ready (rs := [9]) (by kernel_rfl) (by simp) ?_
                  refine AllReadyH.cons (o := ?hoL) ?hioL (fun KL hKL => ?hsL) AllReadyH.nil
                  case hioL => (simp only [List.getElem?_toArray, List.getElem?_cons_zero, List.getElem?_cons_succ]; exact rfl)
                  case hsL =>
                    refine step_textG rfl _ _ rfl (w.heap.size + 2) u5 _ s rfl (N8.out.own2) (Nat.le_trans HV.out.2 N8.out.size) (by rw [List.length_map]; exact HL.out) _ 1 rfl (by rw [HQ.out.2.2.2.1]; exact Lib.cell_of_heap ((hg8.block _ (by have := C3.out.2; exact this) (fun e => by have := (HW.out.1 _ (.inl e.symm)).2; have := HW.out.2.1.size; omega)).trans C3.out.1) 0) ?_
                    intro v6 w9 ho9 hg9 hv9
                    have N9 := Lib.hid (N8.out.app2 ho9 hg9 hv9)
                    refine hKL.out _ _ (KS.out _ _ _ _ _ N9.out) (fun hHeldL => ?_)
                    try simp only [Act.put, List.setIfInBounds_toArray, List.set_cons_zero, List.set_cons_succ]
                    refine' wpAnyH_take (i := 10) (v := ?v10L) ?hi10L (by kernel_rfl) (by kernel_rfl) (by kernel_rfl) ?hq10L (Or.inl ⟨?hw10L, ?hy10L⟩) (by assumption) ?hr10L
                    case hi10L => (simp only [List.getElem?_toArray, List.getElem?_cons_zero, List.getElem?_cons_succ]; exact rfl)
                    case hq10L => exact fun _ _ _ h => h
                    case hw10L => rfl
                    case hy10L =>
                      intro wz hz
                      (try dsimp only at hz)
                      go_simp
                      all_goals with_reducible rfl
                    try simp only [Act.put, List.setIfInBounds_toArray, List.set_cons_zero, List.set_cons_succ]
                    refine' wpAnyH_take (i := 11) (v := ?v11L) ?hi11L (by kernel_rfl) (by kernel_rfl) (by kernel_rfl) ?hq11L (Or.inl ⟨?hw11L, ?hy11L⟩) (by assumption) ?hr11L
                    case hi11L => (simp only [List.getElem?_toArray, List.getElem?_cons_zero, List.getElem?_cons_succ]; exact rfl)
                    case hq11L => exact fun _ _ _ h => h
                    case hw11L => rfl
                    case hy11L =>
                      intro wz hz
                      (try dsimp only at hz)
                      go_simp
                      all_goals with_reducible rfl
                    try simp only [Act.put, List.setIfInBounds_toArray, List.set_cons_zero, List.set_cons_succ]
                    refine wpAnyH_done (by kernel_rfl) ?_ _
                    exact ⟨v5, v6, _, _, _, _, _, _, _, rfl, N9⟩
        case himp =>
          intro e a W hQ
          cases e with
          | normal =>
            obtain ⟨v5, v6, x32, x33, x34, x35, x36, x37, x38, rfl, hM⟩ := hQ
            obtain ⟨e0, e1, e2, e3, e4, e5, e6⟩ := KS.out W _ _ _ _ hM.out
            have Nx : Hid (MultL p w w1 (i + 1) (kids ++ [(c, .slice a5 n5 q5, .slice a6 n6 q6, .slice a7 n7 q7)]) v5 v6 W) := Lib.hid (by
              obtain ⟨h1, h2⟩ := hlay.out
              have bw := HW.out.2.1
              have hown := HW.out.1
              have hz1 := K1.out.2.2.2
              have hz2 := hk.out.low.size
              have hz3 := K6.out.1.size
              have hz4 := hx.out.1.size
              have hz5 := KV.out.1.size
              have hw7 := HW.out.2.2.2.1
              refine ⟨fun x hx2 => ?_, ?_, hM.out.own1, ?_, ?_, ?_⟩
              · rw [h2] at hx2
                rcases List.mem_append.1 hx2 with hx2 | hx2
                · exact hk.out.good x hx2
                · rw [List.mem_singleton.1 hx2]
                  exact HQ.out.2.2.2.2.1
              · rw [h2, List.map_append, List.map_append, hk.out.kid]
                show _ ++ [c] = _ ++ [(layD q).1.1]
                rw [HQ.out.2.2.2.2.2.1]
              · rw [h2, List.map_append]
                show TextsG W _ v6 (_ ++ [(layD q).1.2])
                rw [HQ.out.2.2.2.2.2.2.1]
                exact hM.out.own2
              · intro x hx2
                rcases List.mem_append.1 hx2 with hx2 | hx2
                · refine (hk.out.kids x hx2).to fun g2 hg hl => ⟨⟨hg.1, hM.out.far1 (by have := bw.size; omega) hg.2.1, hM.out.far2 (by have := bw.size; omega) hg.2.2⟩, fun jj => cell_block ((hM.out.keep g2 (by have := bw.size; omega) hg.2.1 hg.2.2).trans (bw.block g2 hl))⟩
                · rw [List.mem_singleton.1 hx2]
                  refine TreeP.to hx.out.2 fun g2 hg hl => ?_
                  have hg : w6.heap.size ≤ g2 := hg
                  have f1 : u4.ownBlock ≠ some g2 := fun e => by have := (hown _ (.inl e)).2; omega
                  have f2 : u5.ownBlock ≠ some g2 := fun e => by have := (hown _ (.inr e)).2; omega
                  exact ⟨⟨by omega, hM.out.far1 (by omega) f1, hM.out.far2 (by omega) f2⟩, fun jj => cell_block ((hM.out.keep g2 (by omega) f1 f2).trans (KV.out.1.block g2 hl))⟩
              · exact hk.out.low.trans ((bw.mono (by omega)).trans (hM.out.low (fun g2 hg => (hown g2 hg).1) (by omega))))
            have HLn : Hid (lenG (p.parts.take (i + 1)) = L + s.length) := Lib.hid (by
              unfold lenG
              rw [hlay.out.2, List.map_append, List.flatten_append, List.length_append]
              show lenG (p.parts.take i) + ([(layD q).1.2] : List TextH).flatten.length = _
              rw [hLL.out, HQ.out.2.2.2.2.2.2.1]
              simp)
            have hsl : s.length ≤ 16384 := HQ.out.2.2.2.2.2.2.2
            clear KS HV HL PK PK2 C2 C3 M0 KV hM hx HQ hlay hk hLL HW K6 m0 m1 m2 m3 m4 m5 m6
            go_wp2
            go_roundw
            case rel => exact ⟨i + 1, _, L + s.length, by omega, by omega, by go_num, by go_num, HLn, Nx⟩
            case measure => simp [intOf]; omega
          | _ => exact hQ.elim
      · obtain ⟨co, hco⟩ : ∃ co, (layD q).2 = co := ⟨_, rfl⟩
        rw [hco] at he
        have hcc : ((co : Int) != 0) = true := by simpa using he
        obtain ⟨E, hE⟩ : ∃ E : ByteArray, (⟨#[]⟩ : ByteArray) = E := ⟨_, rfl⟩
        have hcall3 : Calls Tryz.prog 19 #[.agg #[.slice b1 k1 d1, .string X', .string Y', .slice b2 k2 d2, .string D', .slice b3 k3 d3]] w6 fun e w' => e = .returned (.tuple #[.agg #[.slice none 0 0, .string E, .string E, .slice none 0 0, .string E, .slice none 0 0, .string E], .int .i64 co]) ∧ Below w6.heap.size w6 w' := hcall.mono fun e w' ⟨h1, _, h3⟩ => by
          rw [hco] at h3
          rw [← hE]
          exact ⟨h3 he, h1⟩
        have HE := Lib.hid (show layD p = ((nilM, []), co) ∧ co ≠ 0 from ⟨by rw [hlay.out.1 (by rw [hco]; exact he), hco], he⟩)
        clear hcall he hlay hbo hco hE
        go_wp2_with fail
        refine hcall3.mono ?_
        rintro e w7 ⟨rfl, hb⟩
        obtain ⟨V, hV⟩ : ∃ V, w7.alloc (.cells #[.slice none 0 0, .string E, .string E, .slice none 0 0, .string E, .slice none 0 0, .string E] 43) = V := ⟨_, rfl⟩
        have bwV : Below wr.heap.size wr V := K6.out.1.trans ((hb.trans (show Below w6.heap.size w7 V by rw [← hV]; exact (Below.refl _ _).alloc hb.size _)).mono K6.out.1.size)
        have hz1 := K1.out.2.2.2
        have hz2 := hk.out.low.size
        have lV : LdAt V (w.heap.size + 1) (.slice none 0 0) (.string ⟨#[]⟩) (.string ⟨#[]⟩) (.slice none 0 0) (.string ⟨#[]⟩) (.slice none 0 0) (.string ⟨#[]⟩) := (bwV.block _ (by omega)).trans ((hk.out.low.block _ (by omega)).trans K1.out.2.2.1)
        obtain ⟨m0, m1, m2, m3, m4, m5, m6, f0, f1, f2, f3, f4, f5, f6⟩ := lV.cells
        obtain ⟨g0, g1, g2, g3, g4, g5, g6, _⟩ := (lV.put (.slice none 0 0) (.string ⟨#[]⟩) (.string ⟨#[]⟩) (.slice none 0 0) (.string ⟨#[]⟩) (.slice none 0 0) (.string ⟨#[]⟩)).cells
        have Bl := Lib.hid (below_putD (K1.out.1.trans ((hk.out.low.mono (by omega)).trans (bwV.mono (by omega)))) (show w.heap.size ≤ w.heap.size + 1 by omega) (.slice none 0 0) (.string ⟨#[]⟩) (.string ⟨#[]⟩) (.slice none 0 0) (.string ⟨#[]⟩) (.slice none 0 0) (.string ⟨#[]⟩))
        unfold putD at g0 g1 g2 g3 g4 g5 g6 Bl
        clear hcall3 hb bwV lV hz1 hz2 hk K6 K1 x0 x1 x2 x3 x4 x5 z0 z1 z2 z3 z4 z5
        go_wp2
        refine bodyPost_ret (v := .tuple #[noneV, .int .i64 co]) (by simp [noneV, results, Tryz.f33, go_sem, g0, g1, g2, g3, g4, g5, g6]) rfl ?_
        refine ⟨Bl.out, fun h => ?_, fun _ => ?_⟩
        · rw [HE.out.1] at h
          exact absurd h HE.out.2
        · rw [HE.out.1]
    · obtain rfl : i = n3 := by omega
      have etk : p.parts.take i = p.parts := List.take_of_length_le (by rw [HN.out]; exact Nat.le_refl _)
      have hall := hk.out.good
      have hkid := hk.out.kid
      have how1 := hk.out.own1
      have how2 := hk.out.own2
      have hLt := hLL.out
      unfold lenG at hLt
      rw [etk] at hall hkid how2 hLt
      obtain ⟨ts, hts⟩ : ∃ ts, (p.parts.map fun q => (layD q).1.2) = ts := ⟨_, rfl⟩
      rw [hts] at how2 hLt
      have hz1 := K1.out.2.2.2
      have hz2 := hk.out.low.size
      have bwr : Below w.heap.size w wr := K1.out.1.trans (hk.out.low.mono (by omega))
      have lV : LdAt wr (w.heap.size + 1) (.slice none 0 0) (.string ⟨#[]⟩) (.string ⟨#[]⟩) (.slice none 0 0) (.string ⟨#[]⟩) (.slice none 0 0) (.string ⟨#[]⟩) := (hk.out.low.block _ (by omega)).trans K1.out.2.2.1
      have pV : PrtAt wr w.heap.size (.slice a1 n1 c1) (.string X) (.string Y) (.slice a2 n2 c2) (.string D) (.slice a3 i c3) := (hk.out.low.block _ (by omega)).trans K1.out.2.1
      by_cases hLg : 16384 < L
      · have hdc : decide ((16384 : Int) < (L : Int)) = true := decide_eq_true (by omega)
        have HE := Lib.hid (show layD p = ((nilM, []), 3) from lay_multi_long HF.out.2.2 hall (by rw [hts, hLt]; exact hLg))
        obtain ⟨m0, m1, m2, m3, m4, m5, m6, f0, f1, f2, f3, f4, f5, f6⟩ := lV.cells
        obtain ⟨g0, g1, g2, g3, g4, g5, g6, _⟩ := (lV.put (.slice none 0 0) (.string ⟨#[]⟩) (.string ⟨#[]⟩) (.slice none 0 0) (.string ⟨#[]⟩) (.slice none 0 0) (.string ⟨#[]⟩)).cells
        have Bl := Lib.hid (below_putD bwr (show w.heap.size ≤ w.heap.size + 1 by omega) (.slice none 0 0) (.string ⟨#[]⟩) (.string ⟨#[]⟩) (.slice none 0 0) (.string ⟨#[]⟩) (.slice none 0 0) (.string ⟨#[]⟩))
        unfold putD at g0 g1 g2 g3 g4 g5 g6 Bl
        clear hk K1 etk hall hkid how1 how2 hLt hts hz1 hz2 bwr lV pV hLL
        go_wp2
        refine bodyPost_ret (v := .tuple #[noneV, .int .i64 3]) (by simp [noneV, results, Tryz.f33, go_sem, g0, g1, g2, g3, g4, g5, g6]) rfl ?_
        refine ⟨Bl.out, fun h => ?_, fun _ => ?_⟩
        · rw [HE.out] at h
          exact absurd h (by decide)
        · rw [HE.out]
      · have hdc : decide ((16384 : Int) < (L : Int)) = false := decide_eq_false (by omega)
        have hnum := gnumfor_any wr.heap.size u5 ts m wr how2.at (Nat.le_refl _) (pow_below HM.out.2 bwr) (by omega) ((bwr.cell (p := ⟨0, 0, none⟩) (cell_ltP HM.out.1)).trans HM.out.1)
        obtain ⟨hn1, hn2, _⟩ := num_spec (ts := ts) (by omega)
        have hbv := bound_val hn2
        have hok := fun t ht => lay_multi_ok HF.out.2.2 hall (by rw [hts, hLt]; omega) hts (t := t) ht
        obtain ⟨k, hk0⟩ : ∃ k, numR ts = k := ⟨_, rfl⟩
        rw [hk0] at hnum hn2 hbv hok
        have hbd := fun W (hW : Below w.heap.size w W) => gbound_any k W (by omega) (pow_below HM.out.2 hW)
        have hbs := marks_size k (by omega)
        obtain ⟨bd, hbd0⟩ : ∃ bd, boundR k = bd := ⟨_, rfl⟩
        rw [hbd0] at hbd hbv hok hbs
        have hrt := bordered_right HF.out.2.1.ty hbv (((form_eq p).1 HF.out.1).2.2.2.1 HF.out.2.2).2.2
        obtain ⟨q1, q2, q3, q4⟩ := right_parts HF.out.2.1.ty
        have hwb := fun W (hW : Below w.heap.size w W) => gwithb_any B (.slice a2 n2 c2) p.typ bd W (HT.out.below hW HB.out).t (Nat.le_trans HB.out hW.size) ⟨by omega, by omega, fun x hx => by have := q4 x hx; omega⟩ (by omega)
        unfold typeV at hwb
        rw [show (borderedR p.typ bd).1 = p.typ.1 from rfl, show (borderedR p.typ bd).2.1 = p.typ.2.1 from rfl, HXY.out.1, HXY.out.2.1] at hwb
        obtain ⟨BT, hBT⟩ : ∃ BT, textQ bd = BT := ⟨_, rfl⟩
        have sBT : BT.size ≤ 20 := by rw [← hBT]; exact hbs
        obtain ⟨a4, c4, e4⟩ := row_slice how1
        obtain ⟨a5, c5, e5⟩ := row_slice how2
        obtain ⟨k4, hk4⟩ : ∃ k4, kids.length = k4 := ⟨_, rfl⟩
        obtain ⟨k5, hk5⟩ : ∃ k5, ts.length = k5 := ⟨_, rfl⟩
        rw [hk4] at e4
        rw [hk5] at e5
        subst e4 e5
        have hk5i : k5 = i := by rw [← hk5, ← hts, List.length_map, HN.out]
        rw [hBT] at hbd
        have hwb : ∀ W, Below w.heap.size w W → Calls Tryz.prog 47 #[.agg #[.string X, .string Y, .slice a2 n2 c2], .string BT] W fun e w' => ∃ ub nb cb, e = .returned (.agg #[.string X, .string Y, .slice ub nb cb]) ∧ Hid (ParsOwn w' W.heap.size (.slice ub nb cb) (putC bd p.typ.2.2)) ∧ Below W.heap.size W w' := fun W hW => by
          have h := hwb W hW
          rw [hBT] at h
          refine h.mono ?_
          rintro e w' ⟨u, rfl, hu, hb⟩
          obtain ⟨ub, cb, rfl⟩ := own_slice hu
          exact ⟨ub, _, cb, rfl, Lib.hid hu, hb⟩
        have Hbd := Lib.hid hbd
        have Hwb := Lib.hid hwb
        have HA := Lib.hid (And.intro bwr (And.intro lV (And.intro pV (And.intro how1 how2))))
        have HS := Lib.hid (And.intro hLt (And.intro hLg (And.intro hn2 (And.intro hbv (And.intro hbs (And.intro hrt (And.intro hok (And.intro hk0 (And.intro hbd0 (And.intro hBT (And.intro hk4 (And.intro hk5 hk5i))))))))))))
        have HK := Lib.hid (And.intro hkid (And.intro hts (And.intro hz1 hz2)))
        clear hwb hbd bwr lV pV how1 how2 hLt hLg hn1 hn2 hbv hbs hrt hok hk0 hbd0 hBT hkid hts etk hall q1 q2 q3 q4 hz1 hz2 hk4 hk5 hk5i
        go_wp2_with fail
        refine hnum.mono ?_
        rintro e wA ⟨rfl, hbA⟩
        have BA := Lib.hid (HA.out.1.trans (hbA.mono HA.out.1.size))
        have hbd1 := Hbd.out wA BA.out
        clear hnum
        go_wp2_with fail
        refine hbd1.mono ?_
        rintro e wB ⟨rfl, hbB⟩
        have bB := hbA.trans (hbB.mono hbA.size)
        have BB := Lib.hid (And.intro (HA.out.1.trans (bB.mono HA.out.1.size)) bB)
        have hwb1 := Hwb.out wB BB.out.1
        obtain ⟨y0, y1, y2, y3, y4, y5, _⟩ := (HA.out.2.2.1.below bB).cells
        clear hbd1 hbA hbB bB
        go_wp2_with fail
        refine hwb1.mono ?_
        rintro e wC ⟨ub, nb, cb, rfl, hu, hbC⟩
        obtain ⟨wD, hwD⟩ : ∃ wD, wC.alloc (.cells #[.slice none 0 0, .string X, .string Y, .slice ub nb cb, .string ⟨#[]⟩, .slice a4 k4 c4] 29) = wD := ⟨_, rfl⟩
        have bCD : Below wC.heap.size wC wD := by rw [← hwD]; exact (Below.refl _ _).alloc (Nat.le_refl _) _
        have zD : wD.heap.size = wC.heap.size + 1 := by rw [← hwD]; simp
        have pD : PrtAt wD wC.heap.size (.slice none 0 0) (.string X) (.string Y) (.slice ub nb cb) (.string ⟨#[]⟩) (.slice a4 k4 c4) := by rw [← hwD]; exact prt_new wC _ _ _ _ _ _
        have bBD := hbC.trans (bCD.mono hbC.size)
        have bD := BB.out.2.trans (bBD.mono BB.out.2.size)
        have bwD := HA.out.1.trans (bD.mono HA.out.1.size)
        have huD : ParsP wD (fun g => wB.heap.size ≤ g ∧ g < wC.heap.size) (.slice ub nb cb) (putC bd p.typ.2.2) := hu.out.new.to fun g hg hl => ⟨⟨hg, hl⟩, fun jj => bCD.cell (p := ⟨g, jj, none⟩) hl⟩
        have htp := gtyped_any wD.heap.size p (.slice a1 n1 c1) (.slice a2 n2 c2) (.slice a3 i c3) (borderedR p.typ bd) (.slice ub nb cb) wD ((HT.out.below bwD HB.out).up (Nat.le_trans HB.out bwD.size)) (Nat.le_refl _) huD.at HS.out.2.2.2.2.2.1 (fun x hx => by have := HF.out.2.1.ff x hx; omega) (by have := HF.out.2.1.fl; omega)
        unfold partV typeV at htp
        rw [show (borderedR p.typ bd).1 = p.typ.1 from rfl, show (borderedR p.typ bd).2.1 = p.typ.2.1 from rfl, HXY.out.1, HXY.out.2.1, HXY.out.2.2] at htp
        have htp2 : Calls Tryz.prog 55 #[.agg #[.slice a1 n1 c1, .string X, .string Y, .slice a2 n2 c2, .string D, .slice a3 i c3], .agg #[.string X, .string Y, .slice ub nb cb]] wD fun e w' => ∃ va fn vc, e = .returned (.slice va fn vc) ∧ Hid (FieldsOwn w' wD.heap.size (.slice va fn vc) (unfieldM p.fields ++ [(ctM, textC (borderedR p.typ bd))])) ∧ Below wD.heap.size wD w' := htp.mono fun e w' ⟨v, h1, h2, h3⟩ => by
          obtain ⟨va, vc, rfl⟩ := row_slice h2
          exact ⟨va, _, vc, h1, Lib.hid h2, h3⟩
        have KD := Lib.hid (And.intro bBD (And.intro bD (And.intro bwD (And.intro pD (And.intro huD zD)))))
        have hu2 := Lib.hid (show wr.heap.size ≤ wC.heap.size from Nat.le_trans BB.out.2.size hbC.size)
        clear y0 y1 y2 y3 y4 y5 hwb1 htp hu hbC bCD bBD bD bwD pD huD zD
        obtain ⟨y0, y1, y2, y3, y4, y5, _⟩ := (HA.out.2.2.1.below KD.out.2.1).cells
        obtain ⟨x0, x1, x2, x3, x4, x5, _⟩ := KD.out.2.2.2.1.cells
        go_wp2_with fail
        refine htp2.mono ?_
        rintro e wE ⟨va, fn, vc, rfl, hv, hbE⟩
        have pE := KD.out.2.2.2.1.below hbE
        obtain ⟨wF, hwF⟩ : ∃ wF, wE.setCell ⟨wC.heap.size, 0, none⟩ (.slice va fn vc) = wF := ⟨_, rfl⟩
        have pF : Hid (PrtAt wF wC.heap.size (.slice va fn vc) (.string X) (.string Y) (.slice ub nb cb) (.string ⟨#[]⟩) (.slice a4 k4 c4)) := Lib.hid (by rw [← hwF]; exact heap_setCell_same wE wC.heap.size 0 _ _ (.slice va fn vc) pE)
        have bEF : ∀ g, g ≠ wC.heap.size → wF.heap[g]? = wE.heap[g]? := fun g hg => by rw [← hwF]; exact Below.heap_setCell wE ⟨wC.heap.size, 0, none⟩ _ g hg
        have zEF : wF.heap.size = wE.heap.size := by rw [← hwF]; simp [World.setCell]
        have hzE := hbE.size
        obtain ⟨hBD, hD2, hwD3, _, huD, hzD⟩ := KD.out
        have hrB := BB.out.2.size
        have hrD := hBD.size
        have hK3 := HK.out.2.2
        have bF : Below wr.heap.size wr wF := by
          rw [← hwF]
          exact (hD2.trans (hbE.mono hD2.size)).setCell (p := ⟨wC.heap.size, 0, none⟩) (by show wr.heap.size ≤ wC.heap.size; have := hu2.out; omega) _
        obtain ⟨P', hP'⟩ : ∃ P' : TreeM, TreeM.mk (unfieldM p.fields ++ [(ctM, textC (borderedR p.typ bd))]) (borderedR p.typ bd) [] (kids.map (·.1)) = P' := ⟨_, rfl⟩
        have KT : Hid (TreeP wF (fun g => w.heap.size + 2 ≤ g) P' (.slice va fn vc) (.slice ub nb cb) (.slice a4 k4 c4)) := Lib.hid (by
          have hz1 := hK3.1
          have hz2 := hK3.2
          have hz5 := hu2.out
          rw [← hP']
          refine ⟨hv.out.new.to fun g hg hl => ?_, huD.to fun g hg hl => ?_, (HA.out.2.2.2.1.parts (P := fun g => w.heap.size + 2 ≤ g) (hk.out.kids.to (stay_self fun g hg _ => hg.1)) (fun g h => h)).to fun g hg hl => ⟨hg, fun jj => bF.cell (p := ⟨g, jj, none⟩) hl⟩⟩
          · have hg : wD.heap.size ≤ g := hg
            exact ⟨by omega, fun jj => cell_block (bEF g (by omega))⟩
          · have hg : wB.heap.size ≤ g ∧ g < wC.heap.size := hg
            exact ⟨by omega, fun jj => cell_block ((bEF g (by omega)).trans (hbE.block g hl))⟩)
        have KS : Hid (∀ W, PrtAt W wC.heap.size (.slice va fn vc) (.string X) (.string Y) (.slice ub nb cb) (.string ⟨#[]⟩) (.slice a4 k4 c4) → W.cell? ⟨wC.heap.size, 0, none⟩ = some (.slice va fn vc) ∧ W.cell? ⟨wC.heap.size, 1, none⟩ = some (.string X) ∧ W.cell? ⟨wC.heap.size, 2, none⟩ = some (.string Y) ∧ W.cell? ⟨wC.heap.size, 3, none⟩ = some (.slice ub nb cb) ∧ W.cell? ⟨wC.heap.size, 4, none⟩ = some (.string ⟨#[]⟩) ∧ W.cell? ⟨wC.heap.size, 5, none⟩ = some (.slice a4 k4 c4)) := Lib.hid fun W hW => by
          obtain ⟨t0, t1, t2, t3, t4, t5, _⟩ := hW.cells
          exact ⟨t0, t1, t2, t3, t4, t5⟩
        have HF2 := Lib.hid (And.intro bF (show w.heap.size + 1 < wr.heap.size by have := hK3.1; have := hK3.2; omega))
        have HF3 := Lib.hid (show wC.heap.size ≠ w.heap.size + 1 by have := hu2.out; have := hK3.1; have := hK3.2; omega)
        obtain ⟨RW, hRW⟩ : ∃ RW, textQ (divTextM (45 :: 45 :: bd) ts) = RW := ⟨_, rfl⟩
        obtain ⟨hLt, hLg, hn2, hbv, hbs, hrt, hok, hk0, hbd0, hBT, hk4, hk5, hk5i⟩ := HS.out
        have hbl : bd.length ≤ 20 := hbs
        have hRs : RW.size ≤ 10000000 := by
          rw [← hRW]
          show (divTextM (45 :: 45 :: bd) ts).length ≤ _
          rw [div_tog, List.length_append, tog_len]
          simp only [List.length_cons, List.length_append, List.length_nil]
          have : ts.length * (bd.length + 1 + 1 + 4) ≤ 100 * 26 := Nat.mul_le_mul (by omega) (by omega)
          omega
        have HG : Hid (∀ W, Below wF.heap.size wF W → Calls Tryz.prog 58 #[.slice a5 k5 c5, .string BT] W fun e w' => e = .returned (.string RW) ∧ Below W.heap.size W w') := Lib.hid fun W hW => by
          have bW := bF.trans (hW.mono bF.size)
          have h := gtog_any wr.heap.size (.slice a5 k5 c5) ts bd W (HA.out.2.2.2.2.at.below bW (Nat.le_refl _)) bW.size (by omega) (by omega) (by omega)
          rw [hBT, hRW] at h
          exact h
        have HH : Hid (∀ W, Below wF.heap.size wF W → Calls Tryz.prog 56 #[.agg #[.slice va fn vc, .string X, .string Y, .slice ub nb cb, .string ⟨#[]⟩, .slice a4 k4 c4], .string RW] W fun e w' => ∃ (s0 : Option Addr) (i0 e0 : Nat) (S1 S2 : ByteArray) (s3 : Option Addr) (i3 e3 : Nat) (S4 : ByteArray) (s5 : Option Addr) (i5 e5 : Nat) (S6 : ByteArray) (co : Int), e = .returned (.tuple #[.agg #[.slice s0 i0 e0, .string S1, .string S2, .slice s3 i3 e3, .string S4, .slice s5 i5 e5, .string S6], .int .i64 co]) ∧
            Hid (Below W.heap.size W w' ∧ ((layD p).2 = 0 → (layD p).1.1 = P' ∧ Ending.returned (.tuple #[.agg #[.slice s0 i0 e0, .string S1, .string S2, .slice s3 i3 e3, .string S4, .slice s5 i5 e5, .string S6], .int .i64 co]) = .returned (.tuple #[laidV P' (.slice va fn vc) (.slice ub nb cb) (.slice a4 k4 c4) (layD p).1.2, .int .i64 0])) ∧ ((layD p).2 ≠ 0 → Ending.returned (.tuple #[.agg #[.slice s0 i0 e0, .string S1, .string S2, .slice s3 i3 e3, .string S4, .slice s5 i5 e5, .string S6], .int .i64 co]) = .returned (.tuple #[noneV, .int .i64 (layD p).2])))) := Lib.hid fun W hW => by
          have hsf := unfield_small (n := 90000) (l := p.fields) (fun x hx => HF.out.2.1.ff x hx) (typ_small hrt) (by omega)
          have hkid := HK.out.1
          have hlay : layD p = headD P'.fields P'.typ P'.body P'.parts RW.data.toList := by
            rw [hok _ rfl, ← hP', ← hRW, hkid]
            rfl
          have h := gheaded_any W.heap.size P' (.slice va fn vc) (.slice ub nb cb) (.slice a4 k4 c4) RW W ((KT.out.at.below hW (Nat.le_refl _)).up hW.size) (Nat.le_refl _) (by rw [← hP']; exact hsf) hRs (by rw [← hP']; exact print_lim hsf)
          have hP : partV P' (.slice va fn vc) (.slice ub nb cb) (.slice a4 k4 c4) = .agg #[.slice va fn vc, .string X, .string Y, .slice ub nb cb, .string ⟨#[]⟩, .slice a4 k4 c4] := by
            rw [← hP']
            unfold partV
            show Value.agg #[_, .string (textQ p.typ.1), .string (textQ p.typ.2.1), _, .string (textQ []), _] = _
            rw [HXY.out.1, HXY.out.2.1]
            rfl
          rw [hP, ← hlay] at h
          refine h.mono ?_
          rintro e w' ⟨h1, h2, h3⟩
          by_cases h0 : (layD p).2 = 0
          · have h4 := h2 h0
            refine ⟨_, _, _, _, _, _, _, _, _, _, _, _, _, _, h4, Lib.hid ⟨h1, fun _ => ⟨?_, rfl⟩, fun h => absurd h0 h⟩⟩
            rw [hlay] at h0 ⊢
            rw [(head_ok h0).2.1]
            obtain ⟨_, _, _, _⟩ := P'
            rfl
          · have h4 := h3 h0
            exact ⟨_, _, _, _, _, _, _, _, _, _, _, _, _, _, h4, Lib.hid ⟨h1, fun h => absurd h h0, fun _ => rfl⟩⟩
        clear hBD hD2 hwD3 huD hzD hrB hrD hK3 bF bEF zEF hzE hLt hLg hn2 hbv hbs hrt hok hk0 hbd0 hBT hk4 hk5 hk5i hbl hRs hRW hP' hv hbE KD BB BA y0 y1 y2 y3 y4 y5 x0 x1 x2 x3 x4 x5 htp2 hwD
        obtain ⟨t0, t1, t2, t3, t4, t5, f0, f1, f2, f3, f4, f5⟩ := pE.cells
        clear pE
        go_wp2_with fail
        clear t0 t1 t2 t3 t4 t5 f0 f1 f2 f3 f4 f5
        obtain ⟨t0, t1, t2, t3, t4, t5, _⟩ := pF.out.cells
        refine wp_region_held_drew (S := (fun W => W.cell? ⟨wC.heap.size, 0, none⟩ = some (.slice va fn vc) ∧ W.cell? ⟨wC.heap.size, 1, none⟩ = some (.string X) ∧ W.cell? ⟨wC.heap.size, 2, none⟩ = some (.string Y) ∧ W.cell? ⟨wC.heap.size, 3, none⟩ = some (.slice ub nb cb) ∧ W.cell? ⟨wC.heap.size, 4, none⟩ = some (.string ⟨#[]⟩) ∧ W.cell? ⟨wC.heap.size, 5, none⟩ = some (.slice a4 k4 c4))) (by kernel_rfl) (KS.out _ (pF.out.below (Below.refl _ _).drew)) (fun hHeld => ?_)
        refine' wpAnyH_take (i := 0) (v := ?v0w) ?hi0w (by kernel_rfl) (by kernel_rfl) (by kernel_rfl) ?hq0w (Or.inl ⟨?hw0w, ?hy0w⟩) (by assumption) ?hr0w
        case hi0w => (simp only [List.getElem?_toArray, List.getElem?_cons_zero]; exact rfl)
        case hq0w => exact fun _ _ _ h => h
        case hw0w => rfl
        case hy0w =>
          intro wz hz
          (try dsimp only at hz)
          go_simp
          all_goals with_reducible rfl
        try simp only [Act.put, List.setIfInBounds_toArray, List.set_cons_zero, List.set_cons_succ]
        refine' wpAnyH_take (i := 1) (v := ?v1w) ?hi1w (by kernel_rfl) (by kernel_rfl) (by kernel_rfl) ?hq1w (Or.inl ⟨?hw1w, ?hy1w⟩) (by assumption) ?hr1w
        case hi1w => (simp only [List.getElem?_toArray, List.getElem?_cons_zero, List.getElem?_cons_succ]; exact rfl)
        case hq1w => exact fun _ _ _ h => h
        case hw1w => rfl
        case hy1w =>
          intro wz hz
          (try dsimp only at hz)
          go_simp
          all_goals with_reducible rfl
        try simp only [Act.put, List.setIfInBounds_toArray, List.set_cons_zero, List.set_cons_succ]
        refine' wpAnyH_take (i := 2) (v := ?v2w) ?hi2w (by kernel_rfl) (by kernel_rfl) (by kernel_rfl) ?hq2w (Or.inl ⟨?hw2w, ?hy2w⟩) (by assumption) ?hr2w
        case hi2w => (simp only [List.getElem?_toArray, List.getElem?_cons_zero, List.getElem?_cons_succ]; exact rfl)
        case hq2w => exact fun _ _ _ h => h
        case hw2w => rfl
        case hy2w =>
          intro wz hz
          (try dsimp only at hz)
          go_simp
          all_goals with_reducible rfl
        try simp only [Act.put, List.setIfInBounds_toArray, List.set_cons_zero, List.set_cons_succ]
        refine wpAnyH_ready (rs := [3]) (by kernel_rfl) (by simp) ?_
        refine AllReadyH.cons (o := ?hoa) ?hioa (fun Ka hKa => ?hsa) AllReadyH.nil
        case hioa => (simp only [List.getElem?_toArray, List.getElem?_cons_zero, List.getElem?_cons_succ]; exact rfl)
        case hsa =>
          go_simp
          go_at_call 58
          refine (HG.out _ (Below.refl _ _).drew).mono ?_
          rintro e wG ⟨rfl, hbG0⟩
          have hbG : Below wF.heap.size wF wG := (Below.refl wF.heap.size wF).drew.trans hbG0
          refine hKa.out _ _ (KS.out _ (pF.out.below hbG)) (fun hHelda => ?_)
          try simp only [Act.put, List.setIfInBounds_toArray, List.set_cons_zero, List.set_cons_succ]
          refine wpAnyH_ready (rs := [4]) (by kernel_rfl) (by simp) ?_
          refine AllReadyH.cons (o := ?hob) ?hiob (fun Kb hKb => ?hsb) AllReadyH.nil
          case hiob => (simp only [List.getElem?_toArray, List.getElem?_cons_zero, List.getElem?_cons_succ]; exact rfl)
          case hsb =>
            go_simp
            go_at_call 56
            refine (HH.out _ hbG).mono ?_
            rintro e wH ⟨s0, i0, e0, S1, S2, s3, i3, e3, S4, s5, i5, e5, S6, co, rfl, hx⟩
            have bFH := Lib.hid (show Below wF.heap.size wF wH from hbG.trans (hx.out.1.mono hbG.size))
            have bH := Lib.hid (HF2.out.1.trans (bFH.out.mono HF2.out.1.size))
            have lH : LdAt wH (w.heap.size + 1) (.slice none 0 0) (.string ⟨#[]⟩) (.string ⟨#[]⟩) (.slice none 0 0) (.string ⟨#[]⟩) (.slice none 0 0) (.string ⟨#[]⟩) := (bH.out.block _ HF2.out.2).trans HA.out.2.1
            obtain ⟨m0, m1, m2, m3, m4, m5, m6, f0, f1, f2, f3, f4, f5, f6⟩ := lH.cells
            obtain ⟨g0, g1, g2, g3, g4, g5, g6, _⟩ := (lH.put (.slice s0 i0 e0) (.string S1) (.string S2) (.slice s3 i3 e3) (.string S4) (.slice s5 i5 e5) (.string S6)).cells
            have pH := pF.out.below bFH.out
            refine hKb.out _ _ (KS.out _ pH) (fun hHeldb => ?_)
            try simp only [Act.put, List.setIfInBounds_toArray, List.set_cons_zero, List.set_cons_succ]
            refine' wpAnyH_take (i := 5) (v := ?v5b) ?hi5b (by kernel_rfl) (by kernel_rfl) (by kernel_rfl) ?hq5b (Or.inl ⟨?hw5b, ?hy5b⟩) (by assumption) ?hr5b
            case hi5b => (simp only [List.getElem?_toArray, List.getElem?_cons_zero, List.getElem?_cons_succ]; exact rfl)
            case hq5b => exact fun _ _ _ h => h
            case hw5b => rfl
            case hy5b =>
              intro wz hz
              (try dsimp only at hz)
              go_simp
              all_goals with_reducible rfl
            try simp only [Act.put, List.setIfInBounds_toArray, List.set_cons_zero, List.set_cons_succ]
            refine' wpAnyH_take (i := 6) (v := ?v6b) ?hi6b (by kernel_rfl) (by kernel_rfl) (by kernel_rfl) ?hq6b (Or.inl ⟨?hw6b, ?hy6b⟩) (by assumption) ?hr6b
            case hi6b => (simp only [List.getElem?_toArray, List.getElem?_cons_zero, List.getElem?_cons_succ]; exact rfl)
            case hq6b => exact fun _ _ _ h => h
            case hw6b => rfl
            case hy6b =>
              intro wz hz
              (try dsimp only at hz)
              go_simp
              all_goals with_reducible rfl
            try simp only [Act.put, List.setIfInBounds_toArray, List.set_cons_zero, List.set_cons_succ]
            refine wpAnyH_ready (rs := [7]) (by kernel_rfl) (by simp) ?_
            refine AllReadyH.cons (o := ?hoc) ?hioc (fun Kc hKc => ?hsc) AllReadyH.nil
            case hioc => (simp only [List.getElem?_toArray, List.getElem?_cons_zero, List.getElem?_cons_succ]; exact rfl)
            case hsc =>
              go_simp
              have pI : PrtAt (putD wH (w.heap.size + 1) (.slice s0 i0 e0) (.string S1) (.string S2) (.slice s3 i3 e3) (.string S4) (.slice s5 i5 e5) (.string S6)) wC.heap.size (.slice va fn vc) (.string X) (.string Y) (.slice ub nb cb) (.string ⟨#[]⟩) (.slice a4 k4 c4) := (putD_block HF3.out (.slice s0 i0 e0) (.string S1) (.string S2) (.slice s3 i3 e3) (.string S4) (.slice s5 i5 e5) (.string S6)).trans pH
              have Bl := Lib.hid (below_putD (HA.out.1.trans (bH.out.mono HA.out.1.size)) (show w.heap.size ≤ w.heap.size + 1 by omega) (.slice s0 i0 e0) (.string S1) (.string S2) (.slice s3 i3 e3) (.string S4) (.slice s5 i5 e5) (.string S6))
              have KW := Lib.hid (show TreeP (putD wH (w.heap.size + 1) (.slice s0 i0 e0) (.string S1) (.string S2) (.slice s3 i3 e3) (.string S4) (.slice s5 i5 e5) (.string S6)) (fun g => w.heap.size ≤ g) P' (.slice va fn vc) (.slice ub nb cb) (.slice a4 k4 c4) from KT.out.to fun g hg hl => ⟨by omega, fun jj => cell_block ((putD_block (by omega) (.slice s0 i0 e0) (.string S1) (.string S2) (.slice s3 i3 e3) (.string S4) (.slice s5 i5 e5) (.string S6)).trans (bFH.out.block g hl))⟩)
              unfold putD at g0 g1 g2 g3 g4 g5 g6 pI Bl KW
              refine hKc.out _ _ (KS.out _ pI) (fun hHeldc => ?_)
              try simp only [Act.put, List.setIfInBounds_toArray, List.set_cons_zero, List.set_cons_succ]
              refine' wpAnyH_take (i := 8) (v := ?v8c) ?hi8c (by kernel_rfl) (by kernel_rfl) (by kernel_rfl) ?hq8c (Or.inl ⟨?hw8c, ?hy8c⟩) (by assumption) ?hr8c
              case hi8c => (simp only [List.getElem?_toArray, List.getElem?_cons_zero, List.getElem?_cons_succ]; exact rfl)
              case hq8c => exact fun _ _ _ h => h
              case hw8c => rfl
              case hy8c =>
                intro wz hz
                (try dsimp only at hz)
                go_simp
                all_goals with_reducible rfl
              try simp only [Act.put, List.setIfInBounds_toArray, List.set_cons_zero, List.set_cons_succ]
              refine wpAnyH_done (by kernel_rfl) ?_ _
              clear KS HG HH HA HS HK pF m0 m1 m2 m3 m4 m5 m6 f0 f1 f2 f3 f4 f5 f6 lH pH pI hbG hbG0
              go_wp2
              refine bodyPost_ret (v := .tuple #[.agg #[.slice s0 i0 e0, .string S1, .string S2, .slice s3 i3 e3, .string S4, .slice s5 i5 e5, .string S6], .int .i64 co]) (by simp [results, Tryz.f33, go_sem, g0, g1, g2, g3, g4, g5, g6]) rfl ?_
              refine ⟨Bl.out, fun h => ⟨.slice va fn vc, .slice ub nb cb, .slice a4 k4 c4, ?_, ?_⟩, fun h => hx.out.2.2 h⟩
              · obtain ⟨h1, h2⟩ := hx.out.2.1 h
                rw [h1]
                exact h2
              · obtain ⟨h1, h2⟩ := hx.out.2.1 h
                rw [h1]
                exact KW.out
end Go.Proofs.YtjikghndoklajaaGreatDoor
