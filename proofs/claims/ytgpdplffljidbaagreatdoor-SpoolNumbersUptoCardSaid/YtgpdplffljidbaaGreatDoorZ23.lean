/-
  Texts of this proof, put together: StB, StC.
-/
import Derived.Test.YtgpdplffljidbaaGreatDoorZ22
import Derived.Test.YtgpdplffljidbaaGreatDoorZ04
import Derived.RangeFuncNested
import Derived.Laws.BitsAllLaws
namespace Go.Proofs.YtgpdplffljidbaaGreatDoor
open Go.RowKit Go.Maps

theorem makeMapW (w : World) : (Instr.makeMap 93 none).run Tryz.prog w = .ok (.map (some w.heap.size)) (w.alloc (.map #[] 0)) := by kernel_rfl

theorem zero_size : Tryz.zeroCells110.size = 84 := by kernel_rfl
theorem zero_words : Tryz.zeroCells110.toList.drop 12 = List.replicate 72 (.int .u32 0) := by kernel_rfl
theorem blank_cells (Nd fr ct m : Nat) : CellsOk ((((Tryz.zeroCells110.setIfInBounds 0 (.pointer (some ⟨Nd, 0, none⟩))).setIfInBounds 1 (.int .i64 (fr : Int))).setIfInBounds 2 (.int .i64 ((ct : Int) / 2))).setIfInBounds 7 (.map (some m))) Nd m ⟨fr, ct / 2, ⟨0, 0, 0, 0⟩, false⟩ := by
  have hz := zero_size
  have ho : ∀ j, j ≠ 0 → j ≠ 1 → j ≠ 2 → j ≠ 7 → ((((Tryz.zeroCells110.setIfInBounds 0 (.pointer (some ⟨Nd, 0, none⟩))).setIfInBounds 1 (.int .i64 (fr : Int))).setIfInBounds 2 (.int .i64 ((ct : Int) / 2))).setIfInBounds 7 (.map (some m)))[j]? = Tryz.zeroCells110[j]? := fun j h0 h1 h2 h7 => by
    rw [Array.getElem?_setIfInBounds_ne (Ne.symm h7), Array.getElem?_setIfInBounds_ne (Ne.symm h2), Array.getElem?_setIfInBounds_ne (Ne.symm h1), Array.getElem?_setIfInBounds_ne (Ne.symm h0)]
  refine ⟨?_, ?_, ?_, (ho 3 (by decide) (by decide) (by decide) (by decide)).trans (by kernel_rfl), (ho 4 (by decide) (by decide) (by decide) (by decide)).trans (by kernel_rfl), (ho 5 (by decide) (by decide) (by decide) (by decide)).trans (by kernel_rfl), (ho 6 (by decide) (by decide) (by decide) (by decide)).trans (by kernel_rfl), ?_, (ho 8 (by decide) (by decide) (by decide) (by decide)).trans (by kernel_rfl),
    ⟨by simp [hz], (ho 10 (by decide) (by decide) (by decide) (by decide)).trans (by kernel_rfl), fun j hj => ⟨0, ?_⟩, .inl ((ho 9 (by decide) (by decide) (by decide) (by decide)).trans (by kernel_rfl))⟩⟩
  · rw [Array.getElem?_setIfInBounds_ne (by decide), Array.getElem?_setIfInBounds_ne (by decide), Array.getElem?_setIfInBounds_ne (by decide), set_get9 _ _ _ _ (by omega), if_pos rfl]
  · rw [Array.getElem?_setIfInBounds_ne (by decide), Array.getElem?_setIfInBounds_ne (by decide), set_get9 _ _ _ _ (by simp), if_pos rfl]
  · rw [Array.getElem?_setIfInBounds_ne (by decide), set_get9 _ _ _ _ (by simp), if_pos rfl]
    push_cast
    rfl
  · rw [set_get9 _ _ _ _ (by simp), if_pos rfl]
  · rw [ho (12 + j) (by omega) (by omega) (by omega) (by omega), ← Array.getElem?_toList, ← List.getElem?_drop, zero_words, List.getElem?_replicate, if_pos hj]

set_option maxRecDepth 100000 in
set_option maxHeartbeats 8000000 in
theorem blank_any (B Nd g : Nat) (d : Dk) (w : World) (hd : DiskAt w B Nd g d) (fr ct : Nat) (h4 : 4 ≤ ct) (h2 : ct % 2 = 0) (hfit : fr + ct ≤ d.ss.length) :
    Calls Tryz.prog 45 #[.pointer (some ⟨Nd, 0, none⟩), .int .i64 (fr : Int), .int .i64 (ct : Int)] w fun e w' => ∃ N m cs, e = .returned (.tuple #[.pointer (some ⟨N, 0, none⟩), .int .i64 0]) ∧
      StoreAt w' B N Nd g m 0 cs ⟨fr, ct / 2, ⟨0, 0, 0, 0⟩, false⟩ d [] ∧ w.heap.size ≤ N ∧ w.heap.size ≤ m ∧ Below w.heap.size w w' := by
  have hfew := hd.few
  have hlt := hd.ltN
  have hsz := size_any B Nd g d w hd
  obtain ⟨z, hz⟩ : ∃ z, d.ss.length = z := ⟨_, rfl⟩
  rw [hz] at hfit hfew hsz
  have g1 : ¬ ((fr : Int) < 0) := by omega
  have g2 : ¬ ((ct : Int) < 4) := by omega
  have g4 : ¬ ((z : Int) - (ct : Int) < (fr : Int)) := by omega
  have hmm := makeMapW
  have Hd := Lib.hid hd
  clear hd hz
  go_enter Tryz.func45, Tryz.ntmps45
  go_wp2_with (go_at_call 71; refine hsz.mono ?_; rintro e w2 ⟨rfl, rfl⟩)
  --@a
  go_ret2
  have hdd := Hd.out
  have hb1 : Below w2.heap.size w2 (w2.alloc (.map #[] 0)) := (Below.refl _ w2).alloc (Nat.le_refl _) _
  have hm1 : MapP (w2.alloc (.map #[] 0)) w2.heap.size 0 [] := ⟨List.Pairwise.nil, .map [], World.ownsMap_made w2 _ _ _, fun k => ⟨fun _ => rfl, fun v e => (by cases e)⟩⟩
  obtain ⟨cs, hcs⟩ : ∃ cs, ((((Tryz.zeroCells110.setIfInBounds 0 (.pointer (some ⟨Nd, 0, none⟩))).setIfInBounds 1 (.int .i64 (fr : Int))).setIfInBounds 2 (.int .i64 ((ct : Int) / 2))).setIfInBounds 7 (.map (some w2.heap.size))) = cs := ⟨_, rfl⟩
  have hok : CellsOk cs Nd w2.heap.size ⟨fr, ct / 2, ⟨0, 0, 0, 0⟩, false⟩ := by rw [← hcs]; exact blank_cells Nd fr ct w2.heap.size
  rw [hcs]
  have hb2 := hb1.alloc (by simp) (.cells cs 110)
  have ha : Below (w2.heap.size + 1) (w2.alloc (.map #[] 0)) ((w2.alloc (.map #[] 0)).alloc (.cells cs 110)) := by
    have := (Below.refl _ (w2.alloc (.map #[] 0))).alloc (Nat.le_refl _) (.cells cs 110)
    simpa using this
  have hh : Held9 ((w2.alloc (.map #[] 0)).alloc (.cells cs 110)) (w2.heap.size + 1) cs 110 := by
    have := heap_alloc_new (w2.alloc (.map #[] 0)) (.cells cs 110)
    unfold Held9
    simpa using this
  exact ⟨w2.heap.size + 1, w2.heap.size, cs, rfl, ⟨hh, hok, hdd.below hb2, hm1.below (by simpa using ha), fun b hb e => by have := (hdd.blocks b hb).2; omega⟩, by omega, Nat.le_refl _, hb2⟩
theorem CellsOk.setHalf {cs : Array Value} {Nd m : Nat} {st : StP} (h : CellsOk cs Nd m st) (k : Nat) : CellsOk (cs.setIfInBounds 3 (.int .i64 (k : Int))) Nd m ⟨st.fr, st.sz, ⟨k, st.pl.at_, st.pl.gen, st.pl.num⟩, st.lost⟩ := by
  have hz : 8 < cs.size := (Array.getElem?_eq_some_iff.1 h.c8).1
  have ho : ∀ j, j ≠ 3 → (cs.setIfInBounds 3 (.int .i64 (k : Int)))[j]? = cs[j]? := fun j hj => by rw [set_get9 _ _ _ _ (by omega), if_neg hj]
  exact ⟨(ho 0 (by decide)).trans h.c0, (ho 1 (by decide)).trans h.c1, (ho 2 (by decide)).trans h.c2, by rw [set_get9 _ _ _ _ (by omega), if_pos rfl], (ho 4 (by decide)).trans h.c4, (ho 5 (by decide)).trans h.c5, (ho 6 (by decide)).trans h.c6,
    (ho 7 (by decide)).trans h.c7, (ho 8 (by decide)).trans h.c8, h.once.of (by simp) fun j hj => ho j (by omega)⟩
def makeD (d : Dk) (fr h : Nat) : Dk × Int := if sayD d ((fr + 1 * h + 0 : Nat) : Int) [] = 0 then overD (writeD d ((fr + 1 * h + 0 : Nat) : Int) []) ⟨fr, h, ⟨1, 0, 0, 0⟩, false⟩ [] else (writeD d ((fr + 1 * h + 0 : Nat) : Int) [], sayD d ((fr + 1 * h + 0 : Nat) : Int) [])

set_option maxRecDepth 100000 in
set_option maxHeartbeats 8000000 in
theorem make_any (B Nd g : Nat) (d : Dk) (w : World) (hd : DiskAt w B Nd g d) (hB : B ≤ w.heap.size) (hwr : d.wr ≤ 300000) (fr ct : Nat) (h4 : 4 ≤ ct) (h2 : ct % 2 = 0) (hfit : fr + ct ≤ d.ss.length) :
    Calls Tryz.prog 28 #[.pointer (some ⟨Nd, 0, none⟩), .int .i64 (fr : Int), .int .i64 (ct : Int)] w fun e w' => ∃ d' code, makeD d fr (ct / 2) = (d', code) ∧
      ((code = 0 ∧ ∃ N m cs, e = .returned (.tuple #[.pointer (some ⟨N, 0, none⟩), .int .i64 0]) ∧ StoreAt w' B N Nd g m 0 cs (layS ⟨fr, ct / 2, ⟨1, 0, 0, 0⟩, false⟩ (overP ⟨1, 0, 0, 0⟩) (sizeP []) 0) d' [] ∧ w.heap.size ≤ N ∧ w.heap.size ≤ m) ∨
        (code ≠ 0 ∧ e = .returned (.tuple #[.pointer none, .int .i64 code]) ∧ DiskAt w' B Nd g d')) ∧ Turned (mineD Nd g) w w' := by
  have hfew := hd.few
  have hbl := blank_any B Nd g d w hd fr ct h4 h2 hfit
  obtain ⟨hh, hhh⟩ : ∃ hh, ct / 2 = hh := ⟨_, rfl⟩
  have hhs : hh ≤ 4096 := by omega
  rw [hhh] at hbl ⊢
  obtain ⟨p0, hp0⟩ : ∃ p0 : Nat, fr + 1 * hh + 0 = p0 := ⟨_, rfl⟩
  obtain ⟨c1, hc1⟩ : ∃ c1, sayD d (p0 : Int) [] = c1 := ⟨_, rfl⟩
  obtain ⟨d1, hd1⟩ : ∃ d1, writeD d (p0 : Int) [] = d1 := ⟨_, rfl⟩
  have hd1w : d1.wr ≤ 400000 := by
    have := write_wr d (p0 : Int) []
    rw [hd1] at this
    omega
  have Hmk : Hid (makeD d fr hh = if c1 = 0 then overD d1 ⟨fr, hh, ⟨1, 0, 0, 0⟩, false⟩ [] else (d1, c1)) := Lib.hid (by
    unfold makeD
    rw [hp0, hc1, hd1])
  have hwri : Hid (∀ (N m : Nat) (cs : Array Value) (w3 : World), StoreAt w3 B N Nd g m 0 cs ⟨fr, hh, ⟨1, 0, 0, 0⟩, false⟩ d [] → w.heap.size ≤ w3.heap.size → Calls Tryz.prog 55 #[.pointer (some ⟨N, 0, none⟩), .int .i64 1, .int .i64 0, .string ⟨#[]⟩] w3 fun e w' =>
      e = .returned (.int .i64 c1) ∧ StoreAt w' B N Nd g m 0 cs ⟨fr, hh, ⟨1, 0, 0, 0⟩, false⟩ d1 [] ∧ Turned (mineD Nd g) w3 w') := Lib.hid fun N m cs w3 h hz => by
    refine (h.write (by omega) (by omega) rfl 1 0 (by show fr ≤ _; omega) (by show hh ≤ _; omega) (by omega) (by omega) ⟨#[]⟩ (by decide)).mono ?_
    rintro e w' ⟨h1, h2, h3⟩
    simp only at h1 h2
    rw [hp0] at h1 h2
    rw [hc1] at h1
    rw [hd1] at h2
    exact ⟨h1, h2, h3⟩
  have hovr : Hid (∀ (N m : Nat) (cs : Array Value) (w4 : World), StoreAt w4 B N Nd g m 0 cs ⟨fr, hh, ⟨1, 0, 0, 0⟩, false⟩ d1 [] → w.heap.size ≤ w4.heap.size → Calls Tryz.prog 41 #[.pointer (some ⟨N, 0, none⟩), .slice none 0 0] w4 fun e w' =>
      ∃ d' code cs' m', e = .returned (.int .i64 code) ∧ overD d1 ⟨fr, hh, ⟨1, 0, 0, 0⟩, false⟩ [] = (d', code) ∧ StoreAt w' B N Nd g m' 0 cs' (layS ⟨fr, hh, ⟨1, 0, 0, 0⟩, false⟩ (overP ⟨1, 0, 0, 0⟩) (sizeP []) code) d' [] ∧ Turned (fun b => b = N ∨ mineD Nd g b) w4 w' ∧ (m' = m ∨ w4.heap.size ≤ m')) := Lib.hid fun N m cs w4 h hz => by
    refine (over_any B 0 N Nd g m 0 cs _ d1 [] w4 h (by omega) (by omega) rfl (by show fr ≤ _; omega) (by show hh ≤ _; omega) (by show 1 ≤ 1; omega) (by show 0 < _; omega) (fun p hp => by cases hp) (.slice none 0 0) [] ⟨none, 0, rfl, by simp, by decide, fun i hi => absurd hi (Nat.not_lt_zero i)⟩ (Nat.zero_le _) (by simp) (by omega) (fun c hc => by cases hc) (by show sizeP [] ≤ _; decide)).mono ?_
    rintro e w' ⟨d', code, cs', m', h1, h2, h3, h4, h5⟩
    refine ⟨d', code, cs', m', h1, h2, ?_, h4, h5⟩
    have h6 := h3
    rw [behind_nil, ite_self] at h6
    exact h6
  clear hp0 hc1 hd1 hhh hd
  go_enter Tryz.func28, Tryz.ntmps28
  --@a
  go_wp2_with (first
    | (go_at_call 45; refine hbl.mono ?_; rintro e w2 ⟨N, m, cs, rfl, hst2, hN2, hm2, hb2⟩; have n3 := hst2.held.cell 3; rw [hst2.ok.c3] at n3; have f3 := hst2.held.frozen 3; have tN : Turned (fun b => b = N) w2 (w2.setCell ⟨N, 3, none⟩ (.int .i64 1)) := Turned.set rfl; have hz2 := hb2.size; have hst3 : StoreAt (w2.setCell ⟨N, 3, none⟩ (.int .i64 1)) B N Nd g m 0 (cs.setIfInBounds 3 (.int .i64 1)) ⟨fr, hh, ⟨1, 0, 0, 0⟩, false⟩ d [] := ⟨hst2.held.set 3 _, hst2.ok.setHalf 1, hst2.disk.keep tN (fun b hb e => hst2.apart b hb e), hst2.map.keep tN hst2.mN, hst2.apart⟩; have hw3 := hwri.out N m _ _ hst3 (by simp; omega); have Hs2 := Lib.hid (And.intro hb2 (And.intro tN (And.intro hst2 (And.intro hN2 hm2)))); clear hst2 hb2 tN hst3)
    | (go_at_call 55; with_reducible refine hw3.mono ?_; rintro e w4 ⟨rfl, hst4, ht4⟩; have ho4 := hovr.out N m _ _ hst4 (by have := ht4.size; simp at this; omega); have Hs4 := Lib.hid (And.intro hst4 ht4); clear hst4 ht4 hw3)
    | (go_at_call 41; with_reducible refine ho4.mono ?_; rintro e w5 ⟨d5, code, cs5, m5, rfl, hrun, hst5, ht5, hm5⟩; have Hs5 := Lib.hid (And.intro hrun (And.intro hst5 (And.intro ht5 hm5))); clear hrun hst5 ht5 hm5 ho4))
  --@b
  · rename_i hcn
    have hc : c1 ≠ 0 := by simpa using hcn
    obtain ⟨hb2, tN, hst2, hN2, hm2⟩ := Hs2.out
    obtain ⟨hst4, ht4⟩ := Hs4.out
    have ta : Turned (mineD Nd g) w w4 := ((Turned.of_below hb2 (Nat.le_refl _)).trans tN fun b e => .inr (by omega)).trans ht4 fun _ h => .inl h
    have hz4 := ta.size
    clear hbl
    go_ret2
    exact ⟨d1, c1, by rw [Hmk.out, if_neg hc], .inr ⟨hc, rfl, hst4.disk⟩, ta⟩
  · rename_i hcn
    have hc : code ≠ 0 := by simpa using hcn
    obtain ⟨hb2, tN, hst2, hN2, hm2⟩ := Hs2.out
    obtain ⟨hst4, ht4⟩ := Hs4.out
    have ta : Turned (mineD Nd g) w w4 := ((Turned.of_below hb2 (Nat.le_refl _)).trans tN fun b e => .inr (by omega)).trans ht4 fun _ h => .inl h
    have hz4 := ta.size
    have hc8 : c1 = 0 := by simpa using ‹(c1 != 0) = false›
    obtain ⟨hrun, hst5, ht5, hm5⟩ := Hs5.out
    have tb : Turned (mineD Nd g) w w5 := ta.trans ht5 fun b h => h.elim (fun e => .inr (by omega)) .inl
    clear hbl
    go_ret2
    exact ⟨d5, code, by rw [Hmk.out, if_pos hc8, hrun], .inr ⟨hc, rfl, hst5.disk⟩, tb⟩
  · rename_i hcn
    have hc : code = 0 := by simpa using hcn
    obtain ⟨hb2, tN, hst2, hN2, hm2⟩ := Hs2.out
    obtain ⟨hst4, ht4⟩ := Hs4.out
    have ta : Turned (mineD Nd g) w w4 := ((Turned.of_below hb2 (Nat.le_refl _)).trans tN fun b e => .inr (by omega)).trans ht4 fun _ h => .inl h
    have hz4 := ta.size
    have hc8 : c1 = 0 := by simpa using ‹(c1 != 0) = false›
    obtain ⟨hrun, hst5, ht5, hm5⟩ := Hs5.out
    have tb : Turned (mineD Nd g) w w5 := ta.trans ht5 fun b h => h.elim (fun e => .inr (by omega)) .inl
    subst hc
    clear hbl
    go_ret2
    exact ⟨d5, 0, by rw [Hmk.out, if_pos hc8, hrun], .inl ⟨rfl, N, m5, cs5, rfl, hst5, hN2, hm5.elim (fun e => by omega) fun h => by omega⟩, tb⟩
end Go.Proofs.YtgpdplffljidbaaGreatDoor
namespace Go.Proofs.YtgpdplffljidbaaGreatDoor
open Go.RowKit Go.Maps

def takeP (k : Nat) (o : Bool) (s : List UInt8) : Bool × List UInt8 × List UInt8 := if k ≤ s.length then (o, s.drop k, s.take k) else (false, [], [])

theorem extract_text (s : List UInt8) (i j : Nat) : (textQ s).extract i j = textQ ((s.drop i).take (j - i)) := by
  refine ByteArray.ext (Array.toList_inj.1 ?_)
  rw [Lib.extract_data]
  rfl

set_option maxRecDepth 100000 in
set_option maxHeartbeats 2000000 in
theorem take_any (a b k : Nat) (o : Bool) (s : List UInt8) (_hs : s.length ≤ 1000000000) (hk : k ≤ 1000000000) (hab : a ≠ b) (w : World) (ha : Boxed w a 9 (.string (textQ s))) (hb : Boxed w b 4 (.bool o)) :
    Calls Tryz.prog 75 #[.int .i64 (k : Int), .pointer (some ⟨a, 0, none⟩), .pointer (some ⟨b, 0, none⟩)] w fun e w' => e = .returned (.string (textQ (takeP k o s).2.2)) ∧ Boxed w' a 9 (.string (textQ (takeP k o s).2.1)) ∧ Boxed w' b 4 (.bool (takeP k o s).1) ∧ Turned (fun x => x = a ∨ x = b) w w' := by
  obtain ⟨S, hS⟩ : ∃ S, textQ s = S := ⟨_, rfl⟩
  have hsz : S.size = s.length := by rw [← hS]; rfl
  rw [hS] at ha
  have ca := ha.cell
  have fa := ha.frozen
  have cb := hb.cell
  have fb := hb.frozen
  have H := Lib.hid (And.intro ha (And.intro hb hS))
  clear ha hb hS
  by_cases hks : k ≤ s.length
  · have g1 : ¬ ((S.size : Int) < (k : Int)) := by omega
    have g2 : k ≤ S.size := by omega
    clear hks
    go_enter Tryz.func75, Tryz.ntmps75
    go_wp2
    --@a
    obtain ⟨ha, hb, hS⟩ := H.out
    have e1 : S.extract 0 k = textQ (s.take k) := by rw [← hS, extract_text, List.drop_zero, Nat.sub_zero]
    have e2 : S.extract k s.length = textQ (s.drop k) := by rw [← hS, extract_text, List.take_of_length_le (by rw [List.length_drop]; omega)]
    go_ret
    unfold takeP
    rw [if_pos (by omega)]
    rw [e2]
    refine ⟨?_, ha.set _, hb.other (Ne.symm hab) _, (Turned.refl _ _).set' (.inl rfl)⟩
    show Ending.returned (Value.string (S.extract 0 k)) = _
    rw [e1]
  · have g1 : (S.size : Int) < (k : Int) := by omega
    go_enter Tryz.func75, Tryz.ntmps75
    go_wp2
    --@b
    obtain ⟨ha, hb, hS⟩ := H.out
    go_ret
    unfold takeP
    rw [if_neg hks]
    exact ⟨rfl, (ha.other hab _).set _, (hb.set _).other (Ne.symm hab) _, ((Turned.refl _ _).set' (.inr rfl)).set' (.inl rfl)⟩
theorem or_256 (n b : Nat) (hn : n < 16777216) (hb : b < 256) : bits .or .u32 ((n : Int) * 256 % 4294967296) ((b : Int) % 4294967296) = ((n * 256 + b : Nat) : Int) := by
  rw [show (n : Int) * 256 % 4294967296 = ((n * 256 : Nat) : Int) by omega, show (b : Int) % 4294967296 = ((b : Nat) : Int) by omega, u32_or_nat (n * 256) b (by omega) (by omega)]
  have := Nat.shiftLeft_add_eq_or_of_lt (show b < 2 ^ 8 from hb) n
  rw [Nat.shiftLeft_eq] at this
  rw [← this]
def valF (n : Nat) (l : List UInt8) : Nat := l.foldl (fun n b => n * 256 + b.toNat) n
theorem numF_val : ∀ (l : List UInt8) (n : Nat), n < 256 ^ (4 - l.length) → l.length ≤ 4 → l.foldl (fun n b => bits .or .u32 (n * 256 % 4294967296) ((b.toNat : Int) % 4294967296)) (n : Int) = (valF n l : Int)
  | [], n, _, _ => rfl
  | b :: l, n, hn, hl => by
    rw [List.length_cons] at hn hl
    have hb : b.toNat < 256 := b.toNat_lt
    have h1 : n * 256 + b.toNat < 256 ^ (4 - l.length) := by
      rw [show 4 - l.length = (4 - (l.length + 1)) + 1 by omega, Nat.pow_succ]
      have := Nat.mul_le_mul_right 256 (show n + 1 ≤ 256 ^ (4 - (l.length + 1)) from hn)
      omega
    have h2 : n < 16777216 := by
      refine Nat.lt_of_lt_of_le hn ?_
      exact Nat.pow_le_pow_right (by decide) (show 4 - (l.length + 1) ≤ 3 by omega)
    show l.foldl _ (bits .or .u32 ((n : Int) * 256 % 4294967296) ((b.toNat : Int) % 4294967296)) = _
    rw [or_256 n b.toNat h2 hb]
    exact numF_val l _ h1 (by omega)
theorem numB_val (l : List UInt8) (h : l.length ≤ 4) : numB l = (valF 0 l : Int) := numF_val l 0 (Nat.pow_pos (by decide)) h

theorem head_takes (x : UInt8) (q : List UInt8) {o2 o3 o4 o5 : Bool} {s2 s3 s4 s5 t2 t3 t4 t5 : List UInt8} (h2 : takeP 2 true q = (o2, s2, t2)) (h3 : takeP 2 o2 s2 = (o3, s3, t3)) (h4 : takeP (valF 0 t2) o3 s3 = (o4, s4, t4)) (h5 : takeP (valF 0 t3) o4 s4 = (o5, s5, t5)) :
    headL (x :: q) = if o5 = false ∨ 1 < x.toNat ∨ (x = 1 ∧ t5 ≠ []) then none else some (⟨t4, t5, x == 1⟩, s5) := by
  have dead : ∀ (k : Nat) (s : List UInt8), (takeP k false s).1 = false := fun k s => by unfold takeP; split <;> rfl
  match q, h2 with
  | [], h2 =>
    have e2 : o2 = false := by have := congrArg (·.1) h2; simpa [takeP] using this.symm
    subst e2
    have e3 : o3 = false := by have := congrArg (·.1) h3; rw [dead] at this; exact this.symm
    subst e3
    have e4 : o4 = false := by have := congrArg (·.1) h4; rw [dead] at this; exact this.symm
    subst e4
    have e5 : o5 = false := by have := congrArg (·.1) h5; rw [dead] at this; exact this.symm
    rw [if_pos (.inl e5)]
    rfl
  | [_], h2 =>
    have e2 : o2 = false := by have := congrArg (·.1) h2; simpa [takeP] using this.symm
    subst e2
    have e3 : o3 = false := by have := congrArg (·.1) h3; rw [dead] at this; exact this.symm
    subst e3
    have e4 : o4 = false := by have := congrArg (·.1) h4; rw [dead] at this; exact this.symm
    subst e4
    have e5 : o5 = false := by have := congrArg (·.1) h5; rw [dead] at this; exact this.symm
    rw [if_pos (.inl e5)]
    rfl
  | k1 :: k2 :: q, h2 =>
    have e2 : (true, q, [k1, k2]) = (o2, s2, t2) := by rw [← h2]; simp [takeP]
    obtain ⟨rfl, e9⟩ := Prod.mk.inj e2
    obtain ⟨rfl, rfl⟩ := Prod.mk.inj e9
    match q, h3 with
    | [], h3 =>
      have e3 : o3 = false := by have := congrArg (·.1) h3; simpa [takeP] using this.symm
      subst e3
      have e4 : o4 = false := by have := congrArg (·.1) h4; rw [dead] at this; exact this.symm
      subst e4
      have e5 : o5 = false := by have := congrArg (·.1) h5; rw [dead] at this; exact this.symm
      rw [if_pos (.inl e5)]
      rfl
    | [_], h3 =>
      have e3 : o3 = false := by have := congrArg (·.1) h3; simpa [takeP] using this.symm
      subst e3
      have e4 : o4 = false := by have := congrArg (·.1) h4; rw [dead] at this; exact this.symm
      subst e4
      have e5 : o5 = false := by have := congrArg (·.1) h5; rw [dead] at this; exact this.symm
      rw [if_pos (.inl e5)]
      rfl
    | v1 :: v2 :: r, h3 =>
      have e3 : (true, r, [v1, v2]) = (o3, s3, t3) := by rw [← h3]; simp [takeP]
      obtain ⟨rfl, e9⟩ := Prod.mk.inj e3
      obtain ⟨rfl, rfl⟩ := Prod.mk.inj e9
      have n1 : valF 0 [k1, k2] = val2 k1 k2 := by simp [valF, val2]
      have n2 : valF 0 [v1, v2] = val2 v1 v2 := by simp [valF, val2]
      rw [n1] at h4
      rw [n2] at h5
      rw [show headL (x :: k1 :: k2 :: v1 :: v2 :: r) = if 1 < x.toNat ∨ r.length < val2 k1 k2 + val2 v1 v2 ∨ (x = 1 ∧ 0 < val2 v1 v2) then none else some (⟨r.take (val2 k1 k2), (r.drop (val2 k1 k2)).take (val2 v1 v2), x == 1⟩, r.drop (val2 k1 k2 + val2 v1 v2)) from rfl]
      by_cases hk : val2 k1 k2 ≤ r.length
      · have e4 : (true, r.drop (val2 k1 k2), r.take (val2 k1 k2)) = (o4, s4, t4) := by rw [← h4]; simp [takeP, hk]
        obtain ⟨rfl, e9⟩ := Prod.mk.inj e4
        obtain ⟨rfl, rfl⟩ := Prod.mk.inj e9
        by_cases hv : val2 v1 v2 ≤ (r.drop (val2 k1 k2)).length
        · have e5 : (true, (r.drop (val2 k1 k2)).drop (val2 v1 v2), (r.drop (val2 k1 k2)).take (val2 v1 v2)) = (o5, s5, t5) := by rw [← h5]; unfold takeP; rw [if_pos hv]
          obtain ⟨rfl, e9⟩ := Prod.mk.inj e5
          obtain ⟨rfl, rfl⟩ := Prod.mk.inj e9
          have hl : ((r.drop (val2 k1 k2)).take (val2 v1 v2)).length = val2 v1 v2 := by rw [List.length_take]; omega
          have hne : ((r.drop (val2 k1 k2)).take (val2 v1 v2) ≠ []) ↔ 0 < val2 v1 v2 := by
            rw [← List.length_pos_iff, hl]
          rw [List.length_drop] at hv
          have hc : (1 < x.toNat ∨ r.length < val2 k1 k2 + val2 v1 v2 ∨ (x = 1 ∧ 0 < val2 v1 v2)) ↔ (true = false ∨ 1 < x.toNat ∨ (x = 1 ∧ (r.drop (val2 k1 k2)).take (val2 v1 v2) ≠ [])) := by
            rw [hne]
            constructor
            · rintro (h | h | h)
              · exact .inr (.inl h)
              · omega
              · exact .inr (.inr h)
            · rintro (h | h | h)
              · cases h
              · exact .inl h
              · exact .inr (.inr h)
          simp only [hc, List.drop_drop]
        · have e5 : o5 = false := by have := congrArg (·.1) h5; unfold takeP at this; rw [if_neg hv] at this; exact this.symm
          rw [List.length_drop] at hv
          rw [if_pos (.inr (.inl (by omega))), if_pos (.inl e5)]
      · have e4 : o4 = false := by have := congrArg (·.1) h4; unfold takeP at this; rw [if_neg hk] at this; exact this.symm
        subst e4
        have e5 : o5 = false := by have := congrArg (·.1) h5; rw [dead] at this; exact this.symm
        rw [if_pos (.inr (.inl (by omega))), if_pos (.inl e5)]
end Go.Proofs.YtgpdplffljidbaaGreatDoor
