/-
  Texts of this proof, put together: St8.
-/
import Derived.Test.YtgpdplffljidbaaGreatDoorZ20
namespace Go.Proofs.YtgpdplffljidbaaGreatDoor
open Go.RowKit Go.Maps

theorem len_size : ∀ ps : List PairP, 5 * ps.length ≤ sizeP ps
  | [] => by simp
  | p :: ps => by
    have := len_size ps
    rw [size_cons, List.length_cons]
    omega
theorem MapP.clone {w : World} {m n : Nat} {ps : List PairP} (h : MapP w m n ps) :
    Calls Tryz.prog 66 #[.map (some m)] w fun e w' => e = .returned (.map (some w.heap.size)) ∧ MapP w' w.heap.size n ps ∧ Below w.heap.size w w' := by
  obtain ⟨D, hown, ht⟩ := h.data
  refine (Tryz.mclone8 m n D valR w hown).mono ?_
  rintro e w' ⟨rfl, h1, _, h3⟩
  exact ⟨rfl, ⟨h.sorted, D, h1, ht⟩, h3⟩
def overP (p : PlP) : PlP := ⟨1 - p.half, 0, p.gen + 1, 0⟩
def overL (st : StP) (t : List UInt8) : List (Nat × List UInt8) := (st.fr + (1 - st.pl.half) * st.sz + 0, []) :: layL st (overP st.pl) t
def overD (d : Dk) (st : StP) (qs : List PairP) : Dk × Int := if st.pl.gen = 4294967295 ∨ st.sz < secN (sizeP qs) then (d, 5) else runD d (overL st (printL (wholeP qs)))

theorem StoreAt.below {w w' : World} {B N Nd g m n : Nat} {cs : Array Value} {st : StP} {d : Dk} {ps : List PairP} (h : StoreAt w B N Nd g m n cs st d ps) (hb : Below w.heap.size w w') : StoreAt w' B N Nd g m n cs st d ps :=
  ⟨h.held.below hb h.held.lt, h.ok, h.disk.below hb, h.map.below hb, h.apart⟩
theorem StoreAt.more {w : World} {B N Nd g m n n' : Nat} {cs : Array Value} {st : StP} {d : Dk} {ps : List PairP} (h : StoreAt w B N Nd g m n cs st d ps) (hn : n ≤ n') : StoreAt w B N Nd g m n' cs st d ps :=
  ⟨h.held, h.ok, h.disk, h.map.more hn, h.apart⟩
theorem StoreAt.write {w : World} {B N Nd g m n : Nat} {cs : Array Value} {st : StP} {d : Dk} {ps : List PairP} (h : StoreAt w B N Nd g m n cs st d ps) (hB : B ≤ w.heap.size) (hwr : d.wr ≤ 1000000000000000) (hlost : st.lost = false)
    (half at_ : Nat) (hf : st.fr ≤ 100000) (hz : st.sz ≤ 100000) (hh : half ≤ 1) (hat : at_ ≤ 100000) (s : ByteArray) (hs : s.size ≤ maxLen) :
    Calls Tryz.prog 55 #[.pointer (some ⟨N, 0, none⟩), .int .i64 (half : Int), .int .i64 (at_ : Int), .string s] w fun e w' =>
      e = .returned (.int .i64 (sayD d ((st.fr + half * st.sz + at_ : Nat) : Int) s.data.toList)) ∧ StoreAt w' B N Nd g m n cs st (writeD d ((st.fr + half * st.sz + at_ : Nat) : Int) s.data.toList) ps ∧ Turned (mineD Nd g) w w' := by
  refine (wwrite_any B N Nd g m cs st d w h.held h.ok h.disk hB hwr half at_ hf hz hh hat s hs).mono ?_
  rintro e w' ⟨h1, h2, h3⟩
  rw [hlost] at h1 h2
  exact ⟨h1, ⟨h.held.of_turned h3 (fun hs => h.apart _ hs rfl), h.ok, h2, h.map.keep h3 h.mD, h.apart⟩, h3⟩

theorem CellsOk.setMap {cs : Array Value} {Nd m : Nat} {st : StP} (h : CellsOk cs Nd m st) (m' : Nat) : CellsOk (cs.setIfInBounds 7 (.map (some m'))) Nd m' st := by
  have hz : 8 < cs.size := (Array.getElem?_eq_some_iff.1 h.c8).1
  have ho : ∀ j, j ≠ 7 → (cs.setIfInBounds 7 (.map (some m')))[j]? = cs[j]? := fun j hj => by rw [set_get9 _ _ _ _ (by omega), if_neg hj]
  exact ⟨(ho 0 (by decide)).trans h.c0, (ho 1 (by decide)).trans h.c1, (ho 2 (by decide)).trans h.c2, (ho 3 (by decide)).trans h.c3, (ho 4 (by decide)).trans h.c4, (ho 5 (by decide)).trans h.c5, (ho 6 (by decide)).trans h.c6,
    by rw [set_get9 _ _ _ _ (by omega), if_pos rfl], (ho 8 (by decide)).trans h.c8, h.once.of (by simp) fun j hj => ho j (by omega)⟩

set_option maxRecDepth 100000 in
set_option maxHeartbeats 4000000 in
theorem over_any (B BB N Nd g m n : Nat) (cs : Array Value) (st : StP) (d : Dk) (ps : List PairP) (w : World) (h : StoreAt w B N Nd g m n cs st d ps) (hB : B ≤ w.heap.size) (hwr : d.wr ≤ 800000000000000)
    (hlost : st.lost = false) (hfr : st.fr ≤ 100000) (hz : st.sz ≤ 100000) (hph : st.pl.half ≤ 1) (hpg : st.pl.gen < 4294967296) (hfp : FitP ps)
    (v : Value) (l : List Ch) (hv : ChsAt w BB v l) (hBB : BB ≤ w.heap.size) (hl : l.length ≤ 100000) (hn : n ≤ 500000) (hfit : ∀ c ∈ l, c.fits) (hsz : sizeP (behindP ps l) ≤ 480000) :
    Calls Tryz.prog 41 #[.pointer (some ⟨N, 0, none⟩), v] w fun e w' => ∃ d' code cs' m', e = .returned (.int .i64 code) ∧
      overD d st (behindP ps l) = (d', code) ∧ StoreAt w' B N Nd g m' (n + l.length) cs' (layS st (overP st.pl) (sizeP (behindP ps l)) code) d' (if code = 0 then behindP ps l else ps) ∧
      Turned (fun b => b = N ∨ mineD Nd g b) w w' ∧ (m' = m ∨ w.heap.size ≤ m') := by
  have c3 := h.held.cell 3
  have c5 := h.held.cell 5
  have c7 := h.held.cell 7
  rw [h.ok.c3] at c3
  rw [h.ok.c5] at c5
  rw [h.ok.c7] at c7
  have hcl := h.map.clone
  have hNlt := h.held.lt
  obtain ⟨qs, hqs⟩ : ∃ qs, behindP ps l = qs := ⟨_, rfl⟩
  rw [hqs] at hsz ⊢
  have hql := len_size qs
  have hfq : FitP qs := by rw [← hqs]; exact fit_behind l hfp hfit
  have hchg : Hid (∀ w2 : World, MapP w2 w.heap.size n ps → Below w.heap.size w w2 → Calls Tryz.prog 48 #[.map (some w.heap.size), v] w2 fun e w' => e = .returned (.tuple #[]) ∧ MapP w' w.heap.size (n + l.length) qs ∧ Below w.heap.size w w') := Lib.hid fun w2 hm2 hb2 => by
    refine (change_any BB w.heap.size n ps v l w2 hm2 (hv.below hb2 hBB) (by have := hb2.size; omega) hl (by omega) hfit).mono ?_
    rintro e w' ⟨h1, h2, h3⟩
    rw [hqs] at h2
    exact ⟨h1, h2, hb2.trans (h3.below hb2.size fun b e => by omega)⟩
  have hall : Hid (∀ w3 : World, MapP w3 w.heap.size (n + l.length) qs → Below w.heap.size w w3 → Calls Tryz.prog 67 #[.map (some w.heap.size)] w3 fun e w' => ∃ v4, e = .returned v4 ∧ ChsAt w' w'.heap.size v4 (wholeP qs) ∧ MapP w' w.heap.size (n + l.length) qs ∧ Below w.heap.size w w') := Lib.hid fun w3 hm3 hb3 => by
    refine (all_any w.heap.size (n + l.length) qs w3 hm3 (by omega) (by omega) hfq).mono ?_
    rintro e w' ⟨v4, h1, h2, h3⟩
    exact ⟨v4, h1, h2.at, hm3.below h3, hb3.trans (h3.mono hb3.size)⟩
  obtain ⟨T, hT⟩ : ∃ T, textQ (printL (wholeP qs)) = T := ⟨_, rfl⟩
  have hTs : T.size = sizeP qs := by rw [← hT, ← whole_len]; rfl
  have hprt : Hid (∀ (w4 : World) (v4 : Value), ChsAt w4 w4.heap.size v4 (wholeP qs) → MapP w4 w.heap.size (n + l.length) qs → Below w.heap.size w w4 → Calls Tryz.prog 38 #[v4] w4 fun e w' => e = .returned (.tuple #[.string T, .int .i64 0]) ∧ MapP w' w.heap.size (n + l.length) qs ∧ Below w.heap.size w w') := Lib.hid fun w4 v4 hv4 hm4 hb4 => by
    refine (print_any w4.heap.size v4 (wholeP qs) w4 hv4 (Nat.le_refl _) (by unfold wholeP; rw [List.length_map]; omega) (by rw [whole_len]; omega)).mono ?_
    rintro e w' ⟨h1, h2⟩
    rw [printV_fit (fit_whole hfq), hT] at h1
    exact ⟨h1, hm4.below h2, hb4.trans (h2.mono hb4.size)⟩
  have H := Lib.hid (And.intro h (And.intro hlost (And.intro hT hqs)))
  clear h hlost hv hT hqs hfit hfp hfq
  by_cases hgen : st.pl.gen = 4294967295
  · have hgd : ((st.pl.gen : Int) = 4294967295) := by omega
    rw [hgd] at c5
    clear hgd hcl hchg hall hprt
    go_enter Tryz.func41, Tryz.ntmps41
    go_wp2
    --@g
    go_ret
    obtain ⟨h, hlost, hT, hqs⟩ := H.out
    refine ⟨d, 5, cs, m, rfl, ?_, ?_, Turned.refl _ _, .inl rfl⟩
    · unfold overD
      rw [if_pos (.inl hgen)]
    · unfold layS
      rw [if_neg (by decide), if_neg (by decide)]
      exact h.more (by omega)
  · have hgd : ¬ ((st.pl.gen : Int) = 4294967295) := by omega
    go_enter Tryz.func41, Tryz.ntmps41
    go_wp2_with (first
      | (go_at_call 66; with_reducible refine hcl.mono ?_; rintro e w2 ⟨rfl, hm2, hb2⟩; have hch := hchg.out w2 hm2 hb2; clear hm2 hb2)
      | (go_at_call 48; with_reducible refine hch.mono ?_; rintro e w3 ⟨rfl, hm3, hb3⟩; have hal := hall.out w3 hm3 hb3; clear hm3 hb3)
      | (go_at_call 67; with_reducible refine hal.mono ?_; rintro e w4 ⟨v4, rfl, hv4, hm4, hb4⟩; have hpr := hprt.out w4 v4 hv4 hm4 hb4; clear hv4 hm4 hb4)
      | (go_at_call 38; with_reducible refine hpr.mono ?_; rintro e w5 ⟨rfl, hm5, hb5⟩))
    obtain ⟨hp, hhp⟩ : ∃ hp : Nat, 1 - st.pl.half = hp := ⟨_, rfl⟩
    obtain ⟨gp, hgp⟩ : ∃ gp : Nat, st.pl.gen + 1 = gp := ⟨_, rfl⟩
    have k0 : IntKind.i64.wrap (1 - (st.pl.half : Int)) = (hp : Int) := by
      rw [show (1 - (st.pl.half : Int)) = (hp : Int) by omega]
      exact IntWalk.i64_in _ (by omega)
    have k1 : IntKind.u32.wrap ((st.pl.gen : Int) + 1) = (gp : Int) := by rw [IntKind.wrap_u32']; omega
    have d3 := (hb5.cell (p := ⟨N, 3, none⟩) hNlt).trans c3
    have d5 := (hb5.cell (p := ⟨N, 5, none⟩) hNlt).trans c5
    have hz5 := hb5.size
    have hNn : N ≠ w5.heap.size := by omega
    have hba : Below w5.heap.size w5 (w5.alloc (.cells #[.int .i64 0, .int .i64 0, .int .u32 0, .int .u32 0] 92)) := (Below.refl _ w5).alloc (Nat.le_refl _) _
    have d3a := (hba.cell (p := ⟨N, 3, none⟩) (by show N < _; omega)).trans d3
    have d5a := (hba.cell (p := ⟨N, 5, none⟩) (by show N < _; omega)).trans d5
    clear hba
    have HH := Lib.hid (And.intro hhp hgp)
    have hhp1 : hp ≤ 1 := by omega
    have hgp1 : gp < 4294967296 := by omega
    clear hch hal hpr hcl hchg hall hprt c3 c5 c7 hhp hgp
    --@a
    go_region
    --@b
    have hb6 : Below w.heap.size w (w5.alloc (.cells #[.int .i64 (hp : Int), .int .i64 0, .int .u32 (gp : Int), .int .u32 0] 92)).drew := (hb5.alloc hz5 _).drew
    have hx6 : Held9 (w5.alloc (.cells #[.int .i64 (hp : Int), .int .i64 0, .int .u32 (gp : Int), .int .u32 0] 92)).drew w5.heap.size #[.int .i64 (hp : Int), .int .i64 0, .int .u32 (gp : Int), .int .u32 0] 92 := heap_alloc_new _ _
    obtain ⟨W6, hW6⟩ : ∃ W6, (w5.alloc (.cells #[.int .i64 (hp : Int), .int .i64 0, .int .u32 (gp : Int), .int .u32 0] 92)).drew = W6 := ⟨_, rfl⟩
    have hm6 : MapP W6 w.heap.size (n + l.length) qs := by
      rw [← hW6]
      exact hm5.below (Below.drew ((Below.refl _ w5).alloc (Nat.le_refl _) _))
    rw [hW6] at hb6 hx6 ⊢
    have hz6 := hb6.size
    have hst6 := H.out.1.below hb6
    have hxlt := hx6.lt
    have hm6lt := hm6.lt
    have hMx : ∀ b, mineD Nd g b → b < w.heap.size := fun b hb => (H.out.1.disk.blocks b hb).2
    have e2 := hst6.held.cell 2
    rw [hst6.ok.c2] at e2
    have hfits : Calls Tryz.prog 39 #[.pointer (some ⟨N, 0, none⟩), .agg #[.int .i64 (hp : Int), .int .i64 0, .int .u32 (gp : Int), .int .u32 0], .string T] W6 fun e w' => e = .returned (.bool (decide (0 + secN T.size ≤ st.sz))) ∧ Below W6.heap.size W6 w' :=
      fits_any N st.sz ⟨hp, 0, gp, 0⟩ T (by omega) (by show 0 ≤ _; omega) W6 e2 (by omega)
    have k80 := hx6.cell 0
    have k81 := hx6.cell 1
    have k82 := hx6.cell 2
    have k83 := hx6.cell 3
    simp only [List.getElem?_toArray, List.getElem?_cons_succ, List.getElem?_cons_zero] at k80 k81 k82 k83
    rw [Nat.zero_add, hTs] at hfits
    have H6 := Lib.hid (And.intro hst6 (And.intro hm6 (And.intro hb6 (And.intro hx6 hMx))))
    clear hW6 hm5 hb5 d3 d5 d3a d5a k0 k1 hst6 hm6 hb6 hx6 e2
    by_cases hfs : secN (sizeP qs) ≤ st.sz
    · rw [decide_eq_true hfs] at hfits
      obtain ⟨p0, hp0⟩ : ∃ p0 : Nat, st.fr + hp * st.sz + 0 = p0 := ⟨_, rfl⟩
      obtain ⟨c8, hc8⟩ : ∃ c8, sayD d (p0 : Int) [] = c8 := ⟨_, rfl⟩
      obtain ⟨d8, hd8⟩ : ∃ d8, writeD d (p0 : Int) [] = d8 := ⟨_, rfl⟩
      have hd8w : d8.wr ≤ 900000000000000 := by
        have := write_wr d (p0 : Int) []
        rw [hd8] at this
        omega
      have wri : Hid (∀ w7 : World, Below W6.heap.size W6 w7 → Calls Tryz.prog 55 #[.pointer (some ⟨N, 0, none⟩), .int .i64 (hp : Int), .int .i64 0, .string ⟨#[]⟩] w7 fun e w' =>
          e = .returned (.int .i64 c8) ∧ StoreAt w' B N Nd g m n cs st d8 ps ∧ MapP w' w.heap.size (n + l.length) qs ∧ Held9 w' w5.heap.size #[.int .i64 (hp : Int), .int .i64 0, .int .u32 (gp : Int), .int .u32 0] 92 ∧ Turned (mineD Nd g) w w') := Lib.hid fun w7 hb7 => by
        obtain ⟨h, hlost, hT, hqs⟩ := H.out
        obtain ⟨hst6, hm6, hb6, hx6, hMx⟩ := H6.out
        have hz7 := hb7.size
        refine ((hst6.below hb7).write (by omega) (by omega) hlost hp 0 hfr hz hhp1 (by omega) ⟨#[]⟩ (by decide)).mono ?_
        rintro e w' ⟨h1, h2, h3⟩
        rw [hp0, show (⟨#[]⟩ : ByteArray).data.toList = [] from rfl] at h1 h2
        rw [hc8] at h1
        rw [hd8] at h2
        exact ⟨h1, h2, (hm6.below hb7).keep h3 (fun hs => by have := hMx _ hs; omega), (hx6.below hb7 hxlt).of_turned h3 (fun hs => by have := hMx _ hs; omega), (Turned.of_below (hb6.trans (hb7.mono hz6)) (Nat.le_refl _)).trans h3 fun _ h => .inl h⟩
      have lyg : Hid (∀ w8 : World, StoreAt w8 B N Nd g m n cs st d8 ps → MapP w8 w.heap.size (n + l.length) qs → Turned (mineD Nd g) w w8 → Calls Tryz.prog 65 #[.pointer (some ⟨N, 0, none⟩), .agg #[.int .i64 (hp : Int), .int .i64 0, .int .u32 (gp : Int), .int .u32 0], .string T] w8 fun e w' =>
          ∃ d9 code cs9, e = .returned (.int .i64 code) ∧ runD d8 (layL st ⟨hp, 0, gp, 0⟩ T.data.toList) = (d9, code) ∧ StoreAt w' B N Nd g m n cs9 (layS st ⟨hp, 0, gp, 0⟩ T.size code) d9 ps ∧ MapP w' w.heap.size (n + l.length) qs ∧ Turned (fun b => b = N ∨ mineD Nd g b) w w') := Lib.hid fun w8 hst8 hm8 ht8 => by
        obtain ⟨h, hlost, hT, hqs⟩ := H.out
        obtain ⟨hst6, hm6, hb6, hx6, hMx⟩ := H6.out
        have hz8 := ht8.size
        refine (hst8.lay (by omega) hd8w hlost hfr hz ⟨hp, 0, gp, 0⟩ hhp1 (by show 0 ≤ _; omega) hgp1 (by show 0 < _; omega) T (by omega)).mono ?_
        rintro e w' ⟨d9, code, cs9, h1, h2, h3, h4⟩
        exact ⟨d9, code, cs9, h1, h2, h3, hm8.keep h4 (fun hs => hs.elim (fun e => by omega) fun hs => by have := hMx _ hs; omega), (ht8.mono fun b h => .inr h).trans h4 fun _ h => .inl h⟩
      have kcs : Hid (∀ w7 : World, Below W6.heap.size W6 w7 → Held9 w7 w5.heap.size #[.int .i64 (hp : Int), .int .i64 0, .int .u32 (gp : Int), .int .u32 0] 92) := Lib.hid fun w7 hb7 => H6.out.2.2.2.1.below hb7 hxlt
      have hop : overP st.pl = ⟨hp, 0, gp, 0⟩ := by
        unfold overP
        rw [HH.out.1, HH.out.2]
      have Hov : Hid (overD d st qs = if c8 = 0 then runD d8 (layL st ⟨hp, 0, gp, 0⟩ T.data.toList) else (d8, c8)) := Lib.hid (by
        obtain ⟨h, hlost, hT, hqs⟩ := H.out
        unfold overD overL
        rw [if_neg (fun h => h.elim hgen fun h => by omega), hop, HH.out.1, hp0, runD, hc8, hd8, show T.data.toList = printL (wholeP qs) by rw [← hT]; rfl])
      have Hop := Lib.hid hop
      clear hp0 hc8 hd8 hop
      --@c0
      go_wp2_with (first
        | (go_at_call 39; with_reducible refine hfits.mono ?_; rintro e w7 ⟨rfl, hb7⟩; have hwr7 := wri.out w7 hb7; have hx7 := kcs.out w7 hb7; have k70 := hx7.cell 0; have k71 := hx7.cell 1; simp only [List.getElem?_toArray, List.getElem?_cons_succ, List.getElem?_cons_zero] at k70 k71; clear hx7 hb7)
        | (go_at_call 55; with_reducible refine hwr7.mono ?_; rintro e w8 ⟨rfl, hst8, hm8, hx8, ht8⟩; have hly8 := lyg.out w8 hst8 hm8 ht8; have k90 := hx8.cell 0; have k91 := hx8.cell 1; have k92 := hx8.cell 2; have k93 := hx8.cell 3; simp only [List.getElem?_toArray, List.getElem?_cons_succ, List.getElem?_cons_zero] at k90 k91 k92 k93; have Hs8 := Lib.hid (And.intro hst8 (And.intro hm8 ht8)); clear hst8 hm8 hx8 ht8 k70 k71 hwr7)
        | (go_at_call 65; with_reducible refine hly8.mono ?_; rintro e w9 ⟨d9, code, cs9, rfl, hrun, hst9, hm9, ht9⟩; have n7 := hst9.held.cell 7; rw [hst9.ok.c7] at n7; have f7 := hst9.held.frozen 7; have Hs9 := Lib.hid (And.intro hrun (And.intro hst9 (And.intro hm9 ht9))); clear hrun hst9 hm9 ht9 k90 k91 k92 k93))
      --@c
      · rename_i hcn
        have hc8 : c8 ≠ 0 := by simpa using hcn
        obtain ⟨hst8, hm8, ht8⟩ := Hs8.out
        clear hly8 hfits
        go_ret
        refine ⟨d8, c8, cs, m, rfl, by rw [Hov.out, if_neg hc8], ?_, ht8.mono fun b h => .inr h, .inl rfl⟩
        unfold layS
        rw [if_neg hc8, if_neg hc8]
        exact hst8.more (by omega)
      · rename_i hcn
        have hc8 : c8 = 0 := by simpa using ‹(c8 != 0) = false›
        have hc9 : code ≠ 0 := by simpa using hcn
        obtain ⟨hrun, hst9, hm9, ht9⟩ := Hs9.out
        clear hly8 hfits
        go_ret
        refine ⟨d9, code, cs9, m, rfl, by rw [Hov.out, if_pos hc8, hrun], ?_, ht9, .inl rfl⟩
        rw [if_neg hc9, Hop.out, ← hTs]
        exact hst9.more (by omega)
      · rename_i hcn
        have hc8 : c8 = 0 := by simpa using ‹(c8 != 0) = false›
        have hc9 : code = 0 := by simpa using hcn
        obtain ⟨hrun, hst9, hm9, ht9⟩ := Hs9.out
        have hMx := H6.out.2.2.2.2
        clear hly8 hfits
        subst hc9
        have tN : Turned (fun b => b = N) w9 (w9.setCell ⟨N, 7, none⟩ (.map (some w.heap.size))) := Turned.set rfl
        go_ret
        refine ⟨d9, 0, cs9.setIfInBounds 7 (.map (some w.heap.size)), w.heap.size, rfl, by rw [Hov.out, if_pos hc8, hrun], ?_, ht9.trans tN fun b h => .inl (.inl h), .inr (Nat.le_refl _)⟩
        rw [if_pos rfl, Hop.out, ← hTs]
        exact ⟨hst9.held.set 7 _, hst9.ok.setMap _, hst9.disk.keep tN (fun b hb e => hst9.apart b hb e), hm9.keep tN (by omega), hst9.apart⟩
    · rw [decide_eq_false hfs] at hfits
      go_wp2_with (go_at_call 39; with_reducible refine hfits.mono ?_; rintro e w7 ⟨rfl, hb7⟩)
      --@d
      obtain ⟨h, hlost, hT, hqs⟩ := H.out
      obtain ⟨hst6, hm6, hb6, hx6, hMx⟩ := H6.out
      clear hfits
      go_ret
      refine ⟨d, 5, cs, m, rfl, ?_, ?_, Turned.of_below (hb6.trans (hb7.mono hz6)) (Nat.le_refl _), .inl rfl⟩
      · unfold overD
        rw [if_pos (.inr (by omega))]
      · unfold layS
        rw [if_neg (by decide), if_neg (by decide)]
        exact (hst6.below hb7).more (by omega)
end Go.Proofs.YtgpdplffljidbaaGreatDoor
