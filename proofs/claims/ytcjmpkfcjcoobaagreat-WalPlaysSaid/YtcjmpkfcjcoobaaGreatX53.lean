/-
  Texts of this proof, put together: R8W, R8X.
-/
import Derived.Test.YtcjmpkfcjcoobaaGreatX52
import Derived.Test.YtcjmpkfcjcoobaaGreatX51
import Derived.Deep.RegionHeld3
namespace Go.Proofs.YtcjmpkfcjcoobaaGreat
open Go.RowKit Go.Maps

set_option maxRecDepth 100000 in
set_option maxHeartbeats 2000000 in
theorem rmake_any (ct : Nat) (h : ct ≤ 100000) (w : World) :
    Calls Tryz.prog 17 #[.int .i64 (ct : Int)] w fun e w' => e = .returned (storeV (.slice none 0 0) (ct / 2) 1) ∧ Below w.heap.size w w' := by
  have hsec := fun W => rsecs_any 0 (by omega) W
  have hq : ((ct / 2 : Nat) : Int) = (ct : Int) / 2 := by omega
  unfold storeV
  rw [hq]
  have hr0 := heap_alloc_new w (.cells #[.slice none 0 0, .int .i64 0, .int .i64 0] 49)
  have hb0 := (Below.refl w.heap.size w).alloc (Nat.le_refl _) (.cells #[.slice none 0 0, .int .i64 0, .int .i64 0] 49)
  have hz0 : (w.alloc (.cells #[.slice none 0 0, .int .i64 0, .int .i64 0] 49)).heap.size = w.heap.size + 1 := by simp
  go_enter Tryz.func17, Tryz.ntmps17
  go_wp2_with fail
  generalize w.alloc (.cells #[.slice none 0 0, .int .i64 0, .int .i64 0] 49) = w0 at hr0 hb0 hz0 ⊢
  refine (hsec w0).mono ?_
  rintro e w1 ⟨rfl, hb1⟩
  rw [show ((secN 0 : Nat) : Int) = 1 from rfl]
  have hr1 := (hb1.block w.heap.size (by omega)).trans hr0
  have hb2 := hb0.trans (hb1.mono hb0.size)
  have hh3 := heap_three (v0 := .slice none 0 0) (v1 := .int .i64 ((ct : Int) / 2)) (v2 := .int .i64 1) hr1
  have hbl := below_three (b := w.heap.size) (v0 := .slice none 0 0) (v1 := .int .i64 ((ct : Int) / 2)) (v2 := .int .i64 1) hb2 (Nat.le_refl _) hb2.size
  obtain ⟨y0, y1, y2, _⟩ := cells_three hh3
  obtain ⟨q0, q1, q2, qf⟩ := cells_three hr1
  unfold set3 at hbl y0 y1 y2
  have Hbl := Lib.hid hbl
  clear hh3 hbl hr1 hr0 hb1 hb2 hb0 hsec hq
  --@a
  go_wp2
  exact bodyPost_ret (by simp [results, Tryz.results17, go_sem, y0, y1, y2]) rfl ⟨rfl, Hbl.out⟩

set_option maxRecDepth 100000 in
set_option maxHeartbeats 4000000 in
/-- A commit of no change. -/
theorem rcommit_nil (B C : Nat) (vL v : Value) (ps : List PairP) (half used : Nat) (w : World) (hp : PairsAt w B vL ps) (hc : ChsAt w C v []) (hC : C ≤ w.heap.size) :
    Calls Tryz.prog 18 #[storeV vL half used, v] w fun e w' => e = .returned (.tuple #[storeV vL half used, .int .i64 0]) ∧ Below w.heap.size w w' := by
  obtain ⟨ao, cap, rfl, _⟩ := hp.slice
  have hpr := fun (W : World) (hW : Below w.heap.size w W) => rprint_any C v [] W (hc.below hW hC) (Nat.le_trans hC hW.size) (by simp)
  simp only [print_fits, if_pos (show ∀ c ∈ ([] : List Ch), c.key.length ≤ 65535 ∧ c.val.length ≤ 65535 from fun c hc => by cases hc)] at hpr
  obtain ⟨ao2, cap2, rfl, _⟩ := hc
  unfold storeV
  obtain ⟨np, hnp⟩ : ∃ np, ps.length = np := ⟨_, rfl⟩
  obtain ⟨T, hT⟩ : ∃ T, textQ (printL []) = T := ⟨_, rfl⟩
  rw [hT] at hpr
  have Hpr := Lib.hid hpr
  clear hpr hp hT
  rw [hnp]
  clear hnp
  rw [show ([] : List Ch).length = 0 from rfl] at Hpr ⊢
  go_enter Tryz.func18, Tryz.ntmps18
  go_wp2_with fail
  have hb0 : Below w.heap.size w ((w.alloc (.cells #[.slice ao np cap, .int .i64 (half : Int), .int .i64 (used : Int)] 49)).alloc (.cells #[.slice none 0 0, .int .i64 0, .int .i64 0] 49)) := ((Below.refl _ w).alloc (Nat.le_refl _) _).alloc (by simp) _
  have hs0 : ((w.alloc (.cells #[.slice ao np cap, .int .i64 (half : Int), .int .i64 (used : Int)] 49)).alloc (.cells #[.slice none 0 0, .int .i64 0, .int .i64 0] 49)).heap[w.heap.size]? = some (.cells #[.slice ao np cap, .int .i64 (half : Int), .int .i64 (used : Int)] 49 (0, 0)) := by
    rw [heap_alloc_old _ _ (by simp)]
    exact heap_alloc_new w _
  have hr0 : ((w.alloc (.cells #[.slice ao np cap, .int .i64 (half : Int), .int .i64 (used : Int)] 49)).alloc (.cells #[.slice none 0 0, .int .i64 0, .int .i64 0] 49)).heap[w.heap.size + 1]? = some (.cells #[.slice none 0 0, .int .i64 0, .int .i64 0] 49 (0, 0)) := by
    have := heap_alloc_new (w.alloc (.cells #[.slice ao np cap, .int .i64 (half : Int), .int .i64 (used : Int)] 49)) (.cells #[.slice none 0 0, .int .i64 0, .int .i64 0] 49)
    simpa using this
  have hz0 : ((w.alloc (.cells #[.slice ao np cap, .int .i64 (half : Int), .int .i64 (used : Int)] 49)).alloc (.cells #[.slice none 0 0, .int .i64 0, .int .i64 0] 49)).heap.size = w.heap.size + 2 := by simp
  generalize ((w.alloc (.cells #[.slice ao np cap, .int .i64 (half : Int), .int .i64 (used : Int)] 49)).alloc (.cells #[.slice none 0 0, .int .i64 0, .int .i64 0] 49)) = w0 at hb0 hs0 hr0 hz0 ⊢
  refine (Hpr.out _ hb0).mono ?_
  rintro e w1 ⟨rfl, hw1⟩
  have hb1 := hb0.trans (hw1.mono hb0.size)
  have hz1 := hw1.size
  have hs1 := (hw1.block w.heap.size (by omega)).trans hs0
  have hr1 := (hw1.block (w.heap.size + 1) (by omega)).trans hr0
  obtain ⟨c0, c1, c2, _⟩ := cells_three hs1
  obtain ⟨d0, d1, d2, dz⟩ := cells_three hr1
  have hh := heap_three (v0 := .slice ao np cap) (v1 := .int .i64 (half : Int)) (v2 := .int .i64 (used : Int)) hr1
  have hbl := below_three (b := w.heap.size + 1) (v0 := .slice ao np cap) (v1 := .int .i64 (half : Int)) (v2 := .int .i64 (used : Int)) hb1 (by omega) (by omega)
  obtain ⟨y0, y1, y2, _⟩ := cells_three hh
  unfold set3 at hbl y0 y1 y2
  have Hbl := Lib.hid hbl
  clear hh hbl hr1 hs0 hr0 hw1 hb0 hs1
  --@b
  go_wp2
  exact bodyPost_ret (by simp [results, Tryz.results18, go_sem, y0, y1, y2]) rfl ⟨rfl, Hbl.out⟩
/-- A commit of any changes. -/
theorem rcommit_any (B C : Nat) (vL v : Value) (ps : List PairP) (l : List Ch) (half used : Nat) (w : World) (hp : PairsAt w B vL ps) (hB : B ≤ w.heap.size) (hc : ChsAt w C v l) (hC : C ≤ w.heap.size) (hlen : l.length ≤ 1000) (hps : ps.length ≤ 10000)
    (hpl : (∀ c ∈ l, c.fits) → (printL l).length ≤ 10000000) (hsz : (∀ c ∈ l, c.fits) → sizeP (behindP ps l) ≤ 100000000) (hu : used ≤ 100000) (hh : half ≤ 100000) :
    Calls Tryz.prog 18 #[storeV vL half used, v] w fun e w' => ∃ vL', e = .returned (.tuple #[storeV vL' half (commitP half (used, ps) l).1.1, .int .i64 (commitP half (used, ps) l).2]) ∧ PairsAt w' B vL' (commitP half (used, ps) l).1.2 ∧ Below w.heap.size w w' := by
  by_cases hfit : ∀ c ∈ l, c.key.length ≤ 65535 ∧ c.val.length ≤ 65535
  · by_cases hne : l = []
    · subst hne
      rw [commitP_nil]
      refine (rcommit_nil B C vL v ps half used w hp hc hC).mono ?_
      rintro e w' ⟨rfl, hb⟩
      exact ⟨vL, rfl, ownsRow_below4 hp hb, hb⟩
    · exact rcommit_fit B C vL v ps l half used w hp hB hc hC hlen hps (hpl hfit) (hsz hfit) hu hh hfit hne
  · have hcp : commitP half (used, ps) l = ((used, ps), 3) := if_pos hfit
    rw [hcp]
    refine (rcommit_long B C vL v ps l half used w hp hc hC (by omega) hfit).mono ?_
    rintro e w' ⟨rfl, hb⟩
    exact ⟨vL, rfl, ownsRow_below4 hp hb, hb⟩

theorem Strs.up {w : World} {B B' n c : Nat} {A : Option Addr} {ss : List ByteArray} (h : Strs w B A n c ss) (hB : B ≤ B') : Strs w B' A n c ss := by
  obtain ⟨h1, h2⟩ := h
  refine ⟨h1, h2.imp id ?_⟩
  rintro ⟨ad, q1, q2⟩
  refine ⟨ad, q1, q2.imp id ?_⟩
  rintro ⟨b, off, r1, r2, r3⟩
  exact ⟨b, off, r1, by omega, r3⟩
/-- Texts that lie in memory, wherever. -/
def TextsW (W : World) (v : Value) (m : Nat) (l : List (List UInt8)) : Prop := ∃ A c, v = .slice A m c ∧ Strs W W.heap.size A m c (l.map textQ)
theorem TextsW.below {W W' : World} {v : Value} {m : Nat} {l : List (List UInt8)} (h : TextsW W v m l) (hb : Below W.heap.size W W') : TextsW W' v m l := by
  obtain ⟨A, c, e, h1⟩ := h
  exact ⟨A, c, e, (h1.below hb).up hb.size⟩
theorem texts_same {W : World} {v v' : Value} {m : Nat} {l : List (List UInt8)} (h : TextsW W v m l) (h' : TextsW W v' m l) (hm : m ≤ 1000000) : Calls Tryz.prog 22 #[v, v'] W fun e w' => e = .returned (.bool true) ∧ Below W.heap.size W w' := by
  obtain ⟨A, c, rfl, h1⟩ := h
  obtain ⟨A', c', rfl, h2⟩ := h'
  have := rtexts_any W.heap.size A A' m m c c' _ _ W h1 h2 hm hm (Nat.le_refl _)
  rw [decide_eq_true rfl] at this
  exact this
theorem OwnT9.texts {w : World} {B m : Nat} {v : Value} {l : List (List UInt8)} (h : OwnT9 B w v l) (hm : l.length = m) : TextsW w v m l := by
  obtain ⟨A, c, rfl, h1⟩ := OwnT9.strs h
  rw [hm] at h1 ⊢
  exact ⟨A, c, rfl, h1⟩
end Go.Proofs.YtcjmpkfcjcoobaaGreat
namespace Go.Proofs.YtcjmpkfcjcoobaaGreat
open Go.RowKit Go.Maps

set_option maxRecDepth 100000 in
set_option maxHeartbeats 8000000 in
theorem tells8_any (B Bv N Nd g mb n : Nat) (cs : Array Value) (st : StP) (d : Dk) (ps : List PairP) (half used : Nat) (w : World) (h : StoreAt w B N Nd g mb n cs st d ps) (hn : n ≤ 100000000) (v : Value) (hp : PairsAt w Bv v ps) (hl : ps.length ≤ 10000) (hfp : FitP ps) :
    Calls Tryz.prog 25 #[.pointer (some ⟨N, 0, none⟩), storeV v half used] w fun e w' => e = .returned (.bool true) ∧ Below w.heap.size w w' := by
  have hsorted := h.map.sorted
  have hKA : ∀ W, Below w.heap.size w W → Calls Tryz.prog 23 #[.pointer (some ⟨N, 0, none⟩), .string ⟨#[]⟩] W fun e w' => ∃ v1, e = .returned v1 ∧ TextsW w' v1 ps.length (ps.map (·.1)) ∧ Below w.heap.size w w' ∧ Below W.heap.size W w' := fun W hb => by
    refine (keys_any B N Nd g mb n cs st d ps W (h.below hb) hn []).mono ?_
    rintro e w' ⟨v1, rfl, ho, hb2⟩
    rw [keysP_nil] at ho
    exact ⟨v1, rfl, OwnT9.texts ho (List.length_map ..), hb.trans (hb2.mono hb.size), hb2⟩
  have hRA : ∀ W, Below w.heap.size w W → Calls Tryz.prog 24 #[storeV v half used, .string ⟨#[]⟩] W fun e w' => ∃ v1, e = .returned v1 ∧ TextsW w' v1 ps.length (ps.map (·.1)) ∧ Below w.heap.size w w' ∧ Below W.heap.size W w' := fun W hb => by
    refine (rkeys_any Bv v ps half used ⟨#[]⟩ W (ownsRow_below4 hp hb) (by omega) (fun p hp => by have := (hfp p hp).1; omega)).mono ?_
    rintro e w' ⟨v1, rfl, ho, hb2⟩
    rw [show (⟨#[]⟩ : ByteArray).data.toList = [] from rfl, keysP_nil] at ho
    exact ⟨v1, rfl, OwnT9.texts ho (List.length_map ..), hb.trans (hb2.mono hb.size), hb2⟩
  have hTA : ∀ W v1 v2, Below w.heap.size w W → TextsW W v1 ps.length (ps.map (·.1)) → TextsW W v2 ps.length (ps.map (·.1)) → Calls Tryz.prog 22 #[v1, v2] W fun e w' => e = .returned (.bool true) ∧ Below w.heap.size w w' ∧ Below W.heap.size W w' := fun W v1 v2 hb h1 h2 => by
    refine (texts_same h1 h2 (by omega)).mono ?_
    rintro e w' ⟨rfl, hb2⟩
    exact ⟨rfl, hb.trans (hb2.mono hb.size), hb2⟩
  have hGA : ∀ W i (hi : i < ps.length), Below w.heap.size w W → Calls Tryz.prog 20 #[.pointer (some ⟨N, 0, none⟩), .string (textQ ps[i].1)] W fun e w' => e = .returned (.tuple #[.string (textQ ps[i].2), .bool true]) ∧ Below w.heap.size w w' ∧ Below W.heap.size W w' := fun W i hi hb => by
    have := get_any B N Nd g mb n cs st d ps W (h.below hb) ps[i].1 (by have := (hfp _ (List.getElem_mem hi)).1; omega)
    rw [find_in hsorted (List.getElem_mem hi)] at this
    refine this.mono ?_
    rintro e w' ⟨rfl, hb2⟩
    exact ⟨rfl, hb.trans (hb2.mono hb.size), hb2⟩
  obtain ⟨ao, cap, rfl, hcl1, hcl2, hsl⟩ := hp.slice
  clear hcl1 hcl2
  have hat : Hid (∀ W i (hi : i < ps.length), Below w.heap.size w W → ∃ g, ao = some ⟨g, 0, none⟩ ∧ g < W.heap.size ∧ W.cell? ⟨g, i * 2, none⟩ = some (.string (textQ ps[i].1)) ∧ W.cell? ⟨g, i * 2 + 1, none⟩ = some (.string (textQ ps[i].2))) := Lib.hid fun W i hi hb => by
    obtain ⟨g, e, hg, k0, k1⟩ := hsl i hi
    exact ⟨g, e, by have := hb.size; omega, (hb.cell (p := ⟨g, i * 2, none⟩) hg).trans k0, (hb.cell (p := ⟨g, i * 2 + 1, none⟩) hg).trans k1⟩
  unfold storeV at hRA ⊢
  obtain ⟨np, hnp⟩ : ∃ np, ps.length = np := ⟨_, rfl⟩
  have Hnp := Lib.hid hnp
  rw [hnp] at hKA hRA hTA hl ⊢
  have HK := Lib.hid hKA
  have HR := Lib.hid hRA
  have HT := Lib.hid hTA
  have HG := Lib.hid hGA
  clear hKA hRA hTA hGA hsl hp hnp h hsorted hfp
  have hx0 := heap_alloc_new w (.cells #[.slice ao np cap, .int .i64 (half : Int), .int .i64 (used : Int)] 49)
  have hb0 := (Below.refl w.heap.size w).alloc (Nat.le_refl _) (.cells #[.slice ao np cap, .int .i64 (half : Int), .int .i64 (used : Int)] 49)
  have hz0 : (w.alloc (.cells #[.slice ao np cap, .int .i64 (half : Int), .int .i64 (used : Int)] 49)).heap.size = w.heap.size + 1 := by simp
  go_enter Tryz.func25, Tryz.ntmps25
  go_wp2_with fail
  generalize w.alloc (.cells #[.slice ao np cap, .int .i64 (half : Int), .int .i64 (used : Int)] 49) = w1 at hx0 hb0 hz0 ⊢
  have kS : Hid (∀ W, Below w1.heap.size w1 W → W.cell? ⟨w.heap.size, 0, none⟩ = some (.slice ao np cap) ∧ W.cell? ⟨w.heap.size, 1, none⟩ = some (.int .i64 (half : Int)) ∧ W.cell? ⟨w.heap.size, 2, none⟩ = some (.int .i64 (used : Int))) := Lib.hid fun W hb => by
    obtain ⟨q0, q1, q2, _⟩ := cells_three ((hb.block w.heap.size (by omega)).trans hx0)
    exact ⟨q0, q1, q2⟩
  have hd1 : Below w1.heap.size w1 w1.drew := Below.drew (Below.refl _ w1)
  have s0 := kS.out _ hd1
  have hdw := hb0.trans (hd1.mono (by omega))
  have HB0 := Lib.hid hb0
  clear hx0 hb0
  --@a
  go_region_held3 (fun W => W.cell? ⟨w.heap.size, 0, none⟩ = some (.slice ao np cap) ∧ W.cell? ⟨w.heap.size, 1, none⟩ = some (.int .i64 (half : Int)) ∧ W.cell? ⟨w.heap.size, 2, none⟩ = some (.int .i64 (used : Int)))
    (first | with_reducible exact s0 | with_reducible exact s5 | with_reducible exact s6 | with_reducible exact s7)
    (first
      | (go_at_call 23; refine (HK.out _ hdw).mono ?_; rintro e w5 ⟨v1, rfl, T1, hb5, hB5⟩; have hc5 := hd1.trans (hB5.mono hd1.size); have s5 := kS.out _ hc5; have HT1 := Lib.hid T1; have Hb5 := Lib.hid hb5; have Hc5 := Lib.hid hc5; clear T1 hb5 hB5 hc5)
      | (go_at_call 24; refine (HR.out _ Hb5.out).mono ?_; rintro e w6 ⟨v2, rfl, T2, hb6, hB6⟩; have hc6 := Hc5.out.trans (hB6.mono Hc5.out.size); have s6 := kS.out _ hc6; have HT1b := Lib.hid (HT1.out.below hB6); have HT2 := Lib.hid T2; have Hb6 := Lib.hid hb6; have Hc6 := Lib.hid hc6; clear T2 hb6 hB6 hc6)
      | (go_at_call 22; refine (HT.out _ _ _ Hb6.out HT1b.out HT2.out).mono ?_; rintro e w7 ⟨rfl, hb7, hB7⟩; have hc7 := Hc6.out.trans (hB7.mono Hc6.out.size); have s7 := kS.out _ hc7; have Hb7 := Lib.hid hb7; have Hc7 := Lib.hid hc7; clear hb7 hB7 hc7))
  --@b
  rename_i hHeld
  clear hHeld s0 s5 s6 s7 hd1 hdw HK HR HT HT1b HT2 HT1 Hb5 Hb6 Hc5 Hc6
  go_wp2
  go_loopw [5] (fun iv wr => ∃ i : Nat, i ≤ np ∧ iv = .int .i64 i ∧ Hid (Below w.heap.size w wr ∧ Below w1.heap.size w1 wr)) (fun iv _ => np - (intOf iv).toNat)
  case atStart => exact ⟨0, by omega, rfl, Lib.hid ⟨Hb7.out, Hc7.out⟩⟩
  case round =>
    obtain ⟨i, hi, rfl, hb⟩ := hrel
    obtain ⟨x0, x1, x2⟩ := kS.out _ hb.out.2
    have hwz : w.heap.size < wr.heap.size := by have := hb.out.2.size; omega
    by_cases hlt : i < np
    · have hil : i < ps.length := by rw [Hnp.out]; exact hlt
      obtain ⟨g, rfl, hg, k0, k1⟩ := hat.out wr i hil hb.out.1
      have hgt := HG.out wr i hil hb.out.1
      have hnx : Hid (∀ W, Below w.heap.size w W → W.cell? ⟨g, i * 2 + 1, none⟩ = some (.string (textQ ps[i].2)) ∧ g < W.heap.size) := Lib.hid fun W hb => by
        obtain ⟨g2, e, hg2, _, k1⟩ := hat.out W i hil hb
        obtain ⟨rfl, _⟩ := Addr.mk.inj (Option.some.inj e)
        exact ⟨k1, hg2⟩
      obtain ⟨K, hK⟩ : ∃ K, textQ ps[i].1 = K := ⟨_, rfl⟩
      obtain ⟨V, hV⟩ : ∃ V, textQ ps[i].2 = V := ⟨_, rfl⟩
      rw [hK] at k0 hgt
      rw [hV] at k1 hgt hnx
      clear hK hV hil
      --@c
      go_wp2_with fail
      refine hgt.mono ?_
      rintro e w8 ⟨rfl, hb8, hB8⟩
      have hc8 := hb.out.2.trans (hB8.mono hb.out.2.size)
      obtain ⟨y0, y1, y2⟩ := kS.out _ hc8
      obtain ⟨u1, gz⟩ := hnx.out w8 hb8
      have hwz8 : w.heap.size < w8.heap.size := by have := hB8.size; omega
      have HB8 := Lib.hid (And.intro hb8 hc8)
      clear hgt hb8 hB8 hc8 hnx x0 x1 x2 k0 k1 hg hwz
      --@d
      go_wp2
      go_roundw
      case rel => exact ⟨i + 1, by omega, by go_num, HB8⟩
      case measure => simp [intOf]; omega
    · have hbe := hb.out.1
      --@e
      go_wp2
      go_ret
      exact ⟨rfl, hbe⟩
end Go.Proofs.YtcjmpkfcjcoobaaGreat
