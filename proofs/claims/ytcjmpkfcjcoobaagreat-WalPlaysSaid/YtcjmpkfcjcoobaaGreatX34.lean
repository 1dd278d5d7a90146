/-
  Texts of this proof, put together: St7.
-/
import Derived.Test.YtcjmpkfcjcoobaaGreatX32
namespace Go.Proofs.YtcjmpkfcjcoobaaGreat
open Go.RowKit Go.Maps

/-- A store: its own cells in the block N, its disk's in Nd and g, its map in m. -/
structure StoreAt (w : World) (B N Nd g m n : Nat) (cs : Array Value) (st : StP) (d : Dk) (ps : List PairP) : Prop where
  held : Held9 w N cs 102
  ok : CellsOk cs Nd m st
  disk : DiskAt w B Nd g d
  map : MapP w m n ps
  apart : ∀ b, mineD Nd g b → b ≠ N
theorem StoreAt.mN {w : World} {B N Nd g m n : Nat} {cs : Array Value} {st : StP} {d : Dk} {ps : List PairP} (h : StoreAt w B N Nd g m n cs st d ps) : m ≠ N := by
  rintro rfl
  obtain ⟨es, clock, hb⟩ := h.map.block
  have := h.held
  unfold Held9 at this
  rw [hb] at this
  cases this
theorem StoreAt.mD {w : World} {B N Nd g m n : Nat} {cs : Array Value} {st : StP} {d : Dk} {ps : List PairP} (h : StoreAt w B N Nd g m n cs st d ps) : ¬ mineD Nd g m := fun hm => by
  obtain ⟨es, clock, hb⟩ := h.map.block
  obtain ⟨c, T, fz, hc⟩ := h.disk.cellsOf m hm
  rw [hb] at hc
  cases hc
/-- What a store's calls may turn. -/
def mineS (N Nd g m : Nat) (b : Nat) : Prop := b = N ∨ mineD Nd g b ∨ b = m
theorem ChsAt.keep {S : Nat → Prop} {w w' : World} {B : Nat} {v : Value} {l : List Ch} (h : ChsAt w B v l) (t : Turned S w w') (hB : B ≤ w.heap.size) (hs : ∀ b, v.ownBlock = some b → ¬ S b) : ChsAt w' B v l := by
  obtain ⟨ao, cap, rfl, h2, h3, h4⟩ := h
  refine ⟨ao, cap, rfl, h2, h3, fun i hi => ?_⟩
  obtain ⟨g, off, rfl, q2, q3, q4, q5⟩ := h4 i hi
  have hc : ∀ j, w'.cell? ⟨g, j, none⟩ = w.cell? ⟨g, j, none⟩ := fun j => World.cell?_of_block (t.block g (by omega) (hs g rfl))
  exact ⟨g, off, rfl, q2, (hc _).trans q3, (hc _).trans q4, (hc _).trans q5⟩
theorem layS_lost (st : StP) (p : PlP) (n : Nat) (code : Int) : (layS st p n code).lost = st.lost := by
  unfold layS
  split <;> rfl
/-- A record laid by a store. -/
theorem StoreAt.lay {w : World} {B N Nd g m n : Nat} {cs : Array Value} {st : StP} {d : Dk} {ps : List PairP} (h : StoreAt w B N Nd g m n cs st d ps) (hB : B ≤ w.heap.size) (hwr : d.wr ≤ 500000)
    (hlost : st.lost = false) (hf : st.fr ≤ 100000) (hz : st.sz ≤ 100000) (p : PlP) (hph : p.half ≤ 1) (hpa : p.at_ ≤ 10000) (hpg : p.gen < 4294967296) (hpn : p.num < 4294967295) (t : ByteArray) (ht : t.size ≤ 1000000) :
    Calls Tryz.prog 56 #[.pointer (some ⟨N, 0, none⟩), plV p, .string t] w fun e w' => ∃ d' code cs', e = .returned (.int .i64 code) ∧
      runD d (layL st p t.data.toList) = (d', code) ∧ StoreAt w' B N Nd g m n cs' (layS st p t.size code) d' ps ∧ Turned (fun b => b = N ∨ mineD Nd g b) w w' := by
  refine (lay_any B N Nd g m cs st d w h.held h.ok h.disk hB h.apart hwr hlost hf hz p hph hpa hpg hpn t ht).mono ?_
  rintro e w' ⟨d', code, cs', rfl, h1, h2, h3, h4, h5⟩
  exact ⟨d', code, cs', rfl, h1, ⟨h3, h4, h2, h.map.keep h5 (fun e => e.elim h.mN h.mD), h.apart⟩, h5⟩

set_option maxRecDepth 100000 in
set_option maxHeartbeats 4000000 in
theorem follow_any (B BB N Nd g m n : Nat) (cs : Array Value) (st : StP) (d : Dk) (ps : List PairP) (w : World) (h : StoreAt w B N Nd g m n cs st d ps) (hB : B ≤ w.heap.size) (hwr : d.wr ≤ 500000)
    (hlost : st.lost = false) (hfr : st.fr ≤ 100000) (hz : st.sz ≤ 100000) (hph : st.pl.half ≤ 1) (hpa : st.pl.at_ ≤ 10000) (hpg : st.pl.gen < 4294967296) (hpn : st.pl.num < 4294967295) (t : ByteArray) (ht : t.size ≤ 1000000)
    (v : Value) (l : List Ch) (hv : ChsAt w BB v l) (hBB : BB ≤ w.heap.size) (hva : ∀ b, v.ownBlock = some b → b ≠ N ∧ ¬ mineD Nd g b) (hl : l.length ≤ 100000) (hn : n ≤ 100000000) (hfit : ∀ c ∈ l, c.fits) :
    Calls Tryz.prog 43 #[.pointer (some ⟨N, 0, none⟩), v, .string t] w fun e w' => ∃ d' code cs', e = .returned (.int .i64 code) ∧
      runD d (layL st st.pl t.data.toList) = (d', code) ∧ StoreAt w' B N Nd g m (n + l.length) cs' (layS st st.pl t.size code) d' (if code = 0 then behindP ps l else ps) ∧ Turned (mineS N Nd g m) w w' := by
  have hlay := h.lay hB hwr hlost hfr hz st.pl hph hpa hpg hpn t ht
  have c3 := h.held.cell 3
  have c4 := h.held.cell 4
  have c5 := h.held.cell 5
  have c6 := h.held.cell 6
  rw [h.ok.c3] at c3
  rw [h.ok.c4] at c4
  rw [h.ok.c5] at c5
  rw [h.ok.c6] at c6
  simp only [plV, plCells] at hlay
  have H := Lib.hid (And.intro h (And.intro hv hva))
  have Hl := Lib.hid (And.intro hlost hfit)
  clear h hv hva hlost hfit hpa hpg hpn hph hfr hz
  go_enter Tryz.func43, Tryz.ntmps43
  --@a
  have hchg : Hid (∀ w2 : World, MapP w2 m n ps → Turned (fun b => b = N ∨ mineD Nd g b) w w2 → Calls Tryz.prog 39 #[.map (some m), v] w2 fun e w' => e = .returned (.tuple #[]) ∧ MapP w' m (n + l.length) (behindP ps l) ∧ Turned (fun b => b = m) w2 w') := Lib.hid fun w2 hm2 ht2 => by
    obtain ⟨h, hv, hva⟩ := H.out
    exact change_any BB m n ps v l w2 hm2 (hv.keep ht2 hBB fun b e h => h.elim (hva b e).1 (hva b e).2) (by have := ht2.size; omega) hl hn Hl.out.2
  go_wp2_with (first
    | (go_at_call 56; refine hlay.mono ?_; rintro e w2 ⟨d2, code, cs2, rfl, hrun, hst2, ht2⟩; have c7 := hst2.held.cell 7; rw [hst2.ok.c7] at c7; have hch := hchg.out w2 hst2.map ht2; have Hs := Lib.hid (And.intro hrun (And.intro hst2 ht2)); clear hrun hst2 ht2)
    | (go_at_call 39; with_reducible refine hch.mono ?_; rintro e w3 ⟨rfl, hm3, ht3⟩))
  --@b
  · rename_i hcn
    have hc0 : code ≠ 0 := by simpa using hcn
    obtain ⟨hrun, hst2, ht2⟩ := Hs.out
    clear hch
    go_ret
    refine ⟨d2, code, cs2, rfl, hrun, ⟨hst2.held, hst2.ok, hst2.disk, ?_, hst2.apart⟩, ht2.mono fun b h => h.elim .inl fun h => .inr (.inl h)⟩
    rw [if_neg hc0]
    exact hst2.map.more (by omega)
  · rename_i hcn
    have hc0 : code = 0 := by simpa using hcn
    subst hc0
    obtain ⟨hrun, hst2, ht2⟩ := Hs.out
    clear hch
    go_ret
    refine ⟨d2, 0, cs2, rfl, hrun, ⟨hst2.held.of_turned ht3 (Ne.symm hst2.mN), hst2.ok, hst2.disk.keep ht3 (fun b hb e => hst2.mD (e ▸ hb)), ?_, hst2.apart⟩, (ht2.mono (T := mineS N Nd g m) fun b h => h.elim .inl fun h => .inr (.inl h)).trans ht3 fun b e => .inl (.inr (.inr e))⟩
    rw [if_pos rfl]
    exact hm3
end Go.Proofs.YtcjmpkfcjcoobaaGreat
