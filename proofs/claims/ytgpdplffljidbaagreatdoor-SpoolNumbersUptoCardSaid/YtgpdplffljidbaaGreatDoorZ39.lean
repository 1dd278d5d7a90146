/-
  Texts of this proof, put together: StS, StT, StU, LawS, LwQ, LwA.
-/
import Derived.Test.YtgpdplffljidbaaGreatDoorZ30
import Derived.Test.YtgpdplffljidbaaGreatDoorZ38
import Derived.Test.YtgpdplffljidbaaGreatDoorZ37
namespace Go.Proofs.YtgpdplffljidbaaGreatDoor
open Go.RowKit Go.Maps

end Go.Proofs.YtgpdplffljidbaaGreatDoor
namespace Go.Proofs.YtgpdplffljidbaaGreatDoor
open Go.RowKit Go.Maps

section
variable {d : Dk} {st : StP} {ts : List (List UInt8)} {ps : List PairP}
end
end Go.Proofs.YtgpdplffljidbaaGreatDoor
namespace Go.Proofs.YtgpdplffljidbaaGreatDoor
open Go.RowKit Go.Maps

set_option maxRecDepth 100000 in
set_option maxHeartbeats 4000000 in
theorem made_any (ct : Nat) (h4 : 4 ≤ ct) (h2 : ct % 2 = 0) (hct : ct ≤ 4096) (w : World) :
    Calls Tryz.prog 10 #[.int .i64 (ct : Int)] w fun e w' => ∃ N Nd g d, e = .returned (.tuple #[.pointer (some ⟨Nd, 0, none⟩), .pointer (some ⟨N, 0, none⟩)]) ∧ StoreG w' w.heap.size N Nd g 0 (ct / 2) 1 0 d [] ∧ d.ss.length = ct ∧ Below w.heap.size w w' := by
  have hlen : (newD ct).ss.length = ct := List.length_replicate ..
  have hnew := snew_any w.heap.size w (Nat.le_refl _) ct (by omega) (by omega)
  have hmk : Hid (∀ N g w1, DiskAt w1 w.heap.size N g (newD ct) → w.heap.size ≤ w1.heap.size → Calls Tryz.prog 28 #[.pointer (some ⟨N, 0, none⟩), .int .i64 0, .int .i64 (ct : Int)] w1 fun e w' => ∃ N2 d', e = .returned (.tuple #[.pointer (some ⟨N2, 0, none⟩), .int .i64 0]) ∧
      StoreG w' w.heap.size N2 N g 0 (ct / 2) 1 0 d' [] ∧ d'.ss.length = (newD ct).ss.length ∧ d'.ah = (newD ct).ah ∧ w1.heap.size ≤ N2 ∧ Turned (mineD N g) w1 w') := Lib.hid fun N g w1 hd hB =>
    make_good w.heap.size N g (newD ct) w1 hd hB (Int.le_refl _) rfl (Int.le_refl _) (Int.le_refl _) 0 ct h4 h2 (by omega) (by rw [hlen]; omega)
  rw [hlen] at hmk
  clear h4 h2 hct hlen
  go_enter Tryz.func10, Tryz.ntmps10
  go_wp2_with fail
  refine hnew.mono ?_
  rintro e w1 ⟨N, g, rfl, hD, hb1, hlo⟩
  have hm := hmk.out N g w1 hD hb1.size
  have Hb1 := Lib.hid hb1
  have Hlo := Lib.hid hlo
  clear hD hb1 hlo hmk hnew
  go_wp2_with fail
  --@a
  refine hm.mono ?_
  rintro e w2 ⟨N2, d', rfl, hS, hl, _, _, ht⟩
  have hb2 : Below w.heap.size w w2 := Hb1.out.trans (ht.below Hb1.out.size fun b hb => Hlo.out b hb)
  have HS := Lib.hid (And.intro hS (And.intro hl hb2))
  clear hS hl hb2 ht hm
  go_wp2
  go_ret2
  exact ⟨N2, N, g, d', rfl, HS.out.1, HS.out.2.1, HS.out.2.2⟩
end Go.Proofs.YtgpdplffljidbaaGreatDoor
namespace Go.Proofs.YtgpdplffljidbaaGreatDoor
open Go.RowKit Go.Maps

section
variable {W W' : World} {B N Nd g fr sz used c : Nat} {d : Dk} {ps : List PairP}
theorem StoreG.sorted (h : StoreG W B N Nd g fr sz used c d ps) : SortedP ps := by
  obtain ⟨m, n, cs, st, ts, h1, h2, _⟩ := h
  exact h2.good.sorted
theorem StoreG.fit (h : StoreG W B N Nd g fr sz used c d ps) : FitP ps := by
  obtain ⟨m, n, cs, st, ts, h1, h2, _⟩ := h
  exact h2.good.fit
theorem StoreG.ltN (h : StoreG W B N Nd g fr sz used c d ps) : N < W.heap.size ∧ B ≤ N ∧ ∀ b, mineD Nd g b → B ≤ b ∧ b < W.heap.size := by
  obtain ⟨m, n, cs, st, ts, h1, _, _, _, _, hN, _⟩ := h
  exact ⟨h1.held.lt, hN, h1.disk.blocks⟩
theorem StoreG.disk (h : StoreG W B N Nd g fr sz used c d ps) : DiskAt W B Nd g d := by
  obtain ⟨m, n, cs, st, ts, h1, _⟩ := h
  exact h1.disk
theorem StoreG.up (h : StoreG W B N Nd g fr sz used c d ps) : d.wr ≤ 2103 * ((c : Int) + 1) := by
  obtain ⟨m, n, cs, st, ts, _, _, _, _, _, _, _, _, _, h⟩ := h
  exact h
end
structure LawS (w0 W : World) (N Nd g fr sz used c : Nat) (d : Dk) (ps : List PairP) : Prop where
  s : StoreG W w0.heap.size N Nd g fr sz used c d ps
  lo : Below w0.heap.size w0 W
section
variable {w0 W W' : World} {N Nd g fr sz used c : Nat} {d : Dk} {ps : List PairP}
theorem LawS.below (h : LawS w0 W N Nd g fr sz used c d ps) (hb : Below W.heap.size W W') : LawS w0 W' N Nd g fr sz used c d ps := ⟨h.s.below hb, h.lo.trans (hb.mono h.lo.size)⟩
theorem StoreG.more {B : Nat} (h : StoreG W B N Nd g fr sz used c d ps) {c' : Nat} (hc : c ≤ c') : StoreG W B N Nd g fr sz used c' d ps := by
  obtain ⟨m, n, cs, st, ts, h1, h2, h3, h4, h5, h6, h7, h8, h9, h10⟩ := h
  exact ⟨m, n, cs, st, ts, h1, h2, h3, h4, h5, h6, h7, by omega, by omega, by omega⟩
theorem law_get (h : LawS w0 W N Nd g fr sz used c d ps) (k : KeyP) (hk : k.length ≤ 1000000) :
    Calls Tryz.prog 23 #[.pointer (some ⟨N, 0, none⟩), .string (textQ k)] W fun e w' => e = .returned (.tuple #[.string (textQ ((findP ps k).getD [])), .bool (findP ps k).isSome]) ∧ Below W.heap.size W w' := by
  obtain ⟨m, n, cs, st, h1, _, _⟩ := h.s.at
  exact get_any _ N Nd g m n cs st d ps W h1 k hk
theorem law_keys (h : LawS w0 W N Nd g fr sz used c d ps) (hc : c ≤ 500) (pre : List UInt8) :
    Calls Tryz.prog 42 #[.pointer (some ⟨N, 0, none⟩), .string (textQ pre)] W fun e w' => ∃ v, e = .returned v ∧ OwnT9 W.heap.size w' v (keysP ps pre) ∧ Below W.heap.size W w' := by
  obtain ⟨m, n, cs, st, h1, h2, _⟩ := h.s.at
  exact keys_any _ N Nd g m n cs st d ps W h1 (by omega) pre
theorem law_put (h : LawS w0 W N Nd g fr sz used c d ps) (hc : c ≤ 380) (v : Value) (l : List Ch) (hv : ChsAt W W.heap.size v l) (hva : ∀ b, v.ownBlock = some b → b ≠ N ∧ ¬ mineD Nd g b) (hl : l.length ≤ 200) (hpl : (∀ c ∈ l, c.fits) → (printL l).length ≤ 300000) :
    Calls Tryz.prog 18 #[.pointer (some ⟨N, 0, none⟩), v] W fun e W' => ∃ d', e = .returned (.int .i64 (commitP sz (used, ps) l).2) ∧
      LawS w0 W' N Nd g fr sz (commitP sz (used, ps) l).1.1 (c + 1) d' (commitP sz (used, ps) l).1.2 ∧ d'.ss.length = d.ss.length ∧ Turned (MineG W N Nd g) W W' := by
  refine (commit_good W w0.heap.size W.heap.size N Nd g fr sz used c d ps h.s h.lo.size hc v l hv (Nat.le_refl _) hva hl hpl).mono ?_
  rintro e W' ⟨d', rfl, hs, hl, _, ht, hb⟩
  exact ⟨d', rfl, ⟨hs, h.lo.trans hb⟩, hl, ht⟩
end
theorem chs_one (W : World) (k v : List UInt8) (gn : Bool) : ChsAt (W.alloc (.cells #[.string (textQ k), .string (textQ v), .bool gn] 50)) (W.heap.size + 1) (.slice (some ⟨W.heap.size, 0, none⟩) 1 1) [⟨k, v, gn⟩] := by
  have hh : Held9 (W.alloc (.cells #[.string (textQ k), .string (textQ v), .bool gn] 50)) W.heap.size #[.string (textQ k), .string (textQ v), .bool gn] 50 := by
    unfold Held9
    exact heap_alloc_new _ _
  refine ⟨some ⟨W.heap.size, 0, none⟩, 1, rfl, Nat.le_refl _, by unfold maxLen; omega, fun i hi => ?_⟩
  have h0 : i = 0 := by simp at hi; omega
  subst h0
  exact ⟨W.heap.size, 0, rfl, by omega, hh.cell 0, hh.cell 1, hh.cell 2⟩
end Go.Proofs.YtgpdplffljidbaaGreatDoor
namespace Go.Proofs.YtgpdplffljidbaaGreatDoor
open Go.RowKit Go.Maps

structure LawQ (w0 W : World) (N Nd g sz used c : Nat) (d : Dk) (ps : List PairP) (l : List ItemS) (last : Nat) : Prop where
  s : LawS w0 W N Nd g 0 sz used c d ps
  q : QueueP ps l last
  pw : PowIs w0
section
variable {w0 W W' : World} {N Nd g sz used c : Nat} {d : Dk} {ps : List PairP} {l : List ItemS} {last : Nat}
theorem LawQ.below (h : LawQ w0 W N Nd g sz used c d ps l last) (hb : Below W.heap.size W W') : LawQ w0 W' N Nd g sz used c d ps l last := ⟨h.s.below hb, h.q, h.pw⟩
theorem LawQ.getC (h : LawQ w0 W N Nd g sz used c d ps l last) : GetC W (.pointer (some ⟨N, 0, none⟩)) ps := fun _ hW k hk => law_get (h.s.below hW) k (by omega)
theorem LawQ.keysC (h : LawQ w0 W N Nd g sz used c d ps l last) (hc : c ≤ 500) : KeysC W (.pointer (some ⟨N, 0, none⟩)) ps := fun _ hW => law_keys (h.s.below hW) hc [113, 47]
theorem LawQ.pow (h : LawQ w0 W N Nd g sz used c d ps l last) : PowIs W := pow_below h.pw h.s.lo
theorem lawq_new (h : StoreG W w0.heap.size N Nd g 0 sz 1 0 d []) (hlo : Below w0.heap.size w0 W) (hp : PowIs w0) : LawQ w0 W N Nd g sz 1 0 d [] [] 0 := ⟨⟨h, hlo⟩, queue_nil, hp⟩
theorem lawq_get (h : LawQ w0 W N Nd g sz used c d ps l last) (x : ItemS) (hx : x ∈ l) (n : Nat) (hi : x.id = (n : Int)) :
    Calls Tryz.prog 20 #[.pointer (some ⟨N, 0, none⟩), .int .i64 (n : Int)] W fun e w' => e = .returned (.tuple #[itemV x, .bool true]) ∧ Below W.heap.size W w' := sget_yes W N ps l last _ h.getC h.q h.pow x hx n hi
theorem lawq_gone (h : LawQ w0 W N Nd g sz used c d ps l last) (n : Nat) (hm : n ≤ 99999999) (hno : ∀ x ∈ l, x.id ≠ (n : Int)) :
    Calls Tryz.prog 20 #[.pointer (some ⟨N, 0, none⟩), .int .i64 (n : Int)] W fun e w' => e = .returned (.tuple #[itemW 0 ⟨#[]⟩ ⟨#[]⟩ ⟨#[]⟩ 0 0 0, .bool false]) ∧ Below W.heap.size W w' := sget_no W N ps l last _ h.getC h.q h.pow n hm hno
theorem lawq_list (h : LawQ w0 W N Nd g sz used c d ps l last) (hc : c ≤ 500) (hl : l.length ≤ 100000) :
    Calls Tryz.prog 19 #[.pointer (some ⟨N, 0, none⟩)] W fun e w' => ∃ v, e = .returned v ∧ ItemsOwn w' W.heap.size v l ∧ Below W.heap.size W w' := slist_any W N ps l last _ h.getC (h.keysC hc) h.q h.pow hl
theorem lawq_ready (h : LawQ w0 W N Nd g sz used c d ps l last) (hc : c ≤ 500) (hl : l.length ≤ 100000) (now : Int) :
    Calls Tryz.prog 21 #[.pointer (some ⟨N, 0, none⟩), .int .i64 now] W fun e w' => e = .returned (firstV (l.find? (readyS now))) ∧ Below W.heap.size W w' := sready_any W N ps l last _ now h.getC (h.keysC hc) h.q h.pow hl
theorem lawq_add (h : LawQ w0 W N Nd g sz used c d ps l last) (B : Nat) (v : Value) (xs : List ItemS) (hv : ItemsAt W B v xs) (hB : B ≤ W.heap.size) (hr : ∀ x ∈ xs, rightS x = true) (hm : last + xs.length ≤ 99999999) :
    Calls Tryz.prog 12 #[.pointer (some ⟨N, 0, none⟩), v] W fun e w' => ∃ ao n cap, e = .returned (.tuple #[.slice ao n cap, .int .i64 0]) ∧ n = (addS last xs).length ∧ OwnC9 W.heap.size w' (.slice ao n cap) (addS last xs) ∧ Below W.heap.size W w' :=
  (sadd_any W N ps l last h.getC h.q h.pow B v xs hv hB hr hm).mono fun e w' ⟨u, h1, h2, h3⟩ => by
    obtain ⟨ao, cap, rfl⟩ := row_slice h2
    exact ⟨ao, _, cap, h1, rfl, h2, h3⟩
theorem lawq_fail_none (h : LawQ w0 W N Nd g sz used c d ps l last) (n : Nat) (hm : n ≤ 99999999) (hno : ∀ x ∈ l, x.id ≠ (n : Int)) (now : Int) :
    Calls Tryz.prog 16 #[.pointer (some ⟨N, 0, none⟩), .int .i64 (n : Int), .int .i64 now] W fun e w' => e = .returned (.tuple #[chV [] [] false, .bool false, .int .i64 4]) ∧ Below W.heap.size W w' := sfailed_none W N ps l last _ h.getC h.q h.pow n hm hno now
theorem lawq_fail_err (h : LawQ w0 W N Nd g sz used c d ps l last) (x : ItemS) (hx : x ∈ l) (n : Nat) (hi : x.id = (n : Int)) (now : Int) (r : TurnT) (o : Bool) (co : Int) (hres : failT x.b x.t x.d now = (r, o, co)) (hco : co ≠ 0) :
    Calls Tryz.prog 16 #[.pointer (some ⟨N, 0, none⟩), .int .i64 (n : Int), .int .i64 now] W fun e w' => e = .returned (.tuple #[chV [] [] false, .bool false, .int .i64 co]) ∧ Below W.heap.size W w' := sfailed_err W N ps l last _ h.getC h.q h.pow x hx n hi now r o co hres hco
theorem lawq_fail_over (h : LawQ w0 W N Nd g sz used c d ps l last) (x : ItemS) (hx : x ∈ l) (n : Nat) (hi : x.id = (n : Int)) (now : Int) (r : TurnT) (hres : failT x.b x.t x.d now = (r, true, 0)) :
    Calls Tryz.prog 16 #[.pointer (some ⟨N, 0, none⟩), .int .i64 (n : Int), .int .i64 now] W fun e w' => e = .returned (.tuple #[chV (keyS n) [] true, .bool true, .int .i64 0]) ∧ Below W.heap.size W w' := sfailed_over W N ps l last _ h.getC h.q h.pow x hx n hi now r hres
theorem lawq_fail_again (h : LawQ w0 W N Nd g sz used c d ps l last) (x : ItemS) (hx : x ∈ l) (n : Nat) (hi : x.id = (n : Int)) (now : Int) (rb rt rd : Int) (hres : failT x.b x.t x.d now = ((rb, rt, rd), false, 0)) (hr2 : rightS { x with b := rb, t := rt, d := rd } = true) :
    Calls Tryz.prog 16 #[.pointer (some ⟨N, 0, none⟩), .int .i64 (n : Int), .int .i64 now] W fun e w' => e = .returned (.tuple #[chV (keyS n) (textS { x with b := rb, t := rt, d := rd }) false, .bool false, .int .i64 0]) ∧ Below W.heap.size W w' := sfailed_again W N ps l last _ h.getC h.q h.pow x hx n hi now rb rt rd hres hr2
theorem lawq_put (h : LawQ w0 W N Nd g sz used c d ps l last) (hc : c ≤ 380) (B : Nat) (v : Value) (cs : List Ch) (hv : OwnC9 B W v cs) (hN : N < B) (hD : ∀ b, mineD Nd g b → b < B) (hl : cs.length ≤ 200) (hpl : (printL cs).length ≤ 300000) :
    Calls Tryz.prog 18 #[.pointer (some ⟨N, 0, none⟩), v] W fun e W' => ∃ d', e = .returned (.int .i64 (commitP sz (used, ps) cs).2) ∧
      LawS w0 W' N Nd g 0 sz (commitP sz (used, ps) cs).1.1 (c + 1) d' (commitP sz (used, ps) cs).1.2 ∧ d'.ss.length = d.ss.length ∧ Turned (MineG W N Nd g) W W' :=
  law_put h.s hc v cs hv.at (fun b hb => by
    have hlt := (World.ownsRow.lt hv b hb).1
    exact ⟨fun e => by omega, fun hd => by have := hD b hd; omega⟩) hl (fun _ => hpl)
theorem lawq_one (h : LawQ w0 W N Nd g sz used c d ps l last) (hc : c ≤ 380) (k v : List UInt8) (gn : Bool) (hf : k.length ≤ 65535 ∧ v.length ≤ 65535) :
    Calls Tryz.prog 18 #[.pointer (some ⟨N, 0, none⟩), .slice (some ⟨W.heap.size, 0, none⟩) 1 1] (W.alloc (.cells #[.string (textQ k), .string (textQ v), .bool gn] 50)) fun e W' => ∃ d', e = .returned (.int .i64 (commitP sz (used, ps) [⟨k, v, gn⟩]).2) ∧
      LawS w0 W' N Nd g 0 sz (commitP sz (used, ps) [⟨k, v, gn⟩]).1.1 (c + 1) d' (commitP sz (used, ps) [⟨k, v, gn⟩]).1.2 ∧ d'.ss.length = d.ss.length ∧ Turned (MineG (W.alloc (.cells #[.string (textQ k), .string (textQ v), .bool gn] 50)) N Nd g) (W.alloc (.cells #[.string (textQ k), .string (textQ v), .bool gn] 50)) W' := by
  have hba := (Below.refl _ W).alloc (Nat.le_refl _) (.cells #[.string (textQ k), .string (textQ v), .bool gn] 50)
  have hN := h.s.s.ltN
  have hch := chs_one W k v gn
  rw [show W.heap.size + 1 = (W.alloc (.cells #[.string (textQ k), .string (textQ v), .bool gn] 50)).heap.size by simp] at hch
  refine law_put (h.s.below hba) hc _ [⟨k, v, gn⟩] hch (fun b hb => by
    obtain rfl : W.heap.size = b := Option.some.inj hb
    exact ⟨fun e => by have := hN.1; omega, fun e => by have := (hN.2.2 _ e).2; omega⟩) (by simp) (fun _ => ?_)
  have h1 := says_le ⟨k, v, gn⟩
  have h2 : (printL []).length = 0 := rfl
  have h3 : (⟨k, v, gn⟩ : Ch).val.length = v.length := rfl
  have h4 : (⟨k, v, gn⟩ : Ch).key.length = k.length := rfl
  rw [print_cons]
  omega
theorem row_keepG {B0 e size n : Nat} {v : Value} {xs : List Value} (h : W.ownsRow B0 e size v n xs) (hN : N < B0) (hd : ∀ b, mineD Nd g b → b < B0) (t : Turned (MineG W N Nd g) W W') : W'.ownsRow B0 e size v n xs := by
  refine t.row h fun b hb hm => ?_
  obtain ⟨h1, cur, h2⟩ := row_block h hb
  rcases hm with rfl | hm | ⟨es, clock, hm⟩
  · omega
  · have := hd b hm
    omega
  · rw [h2] at hm
    cases hm
theorem StoreG.side {B fr : Nat} {S : Nat → Prop} (h : StoreG W B N Nd g fr sz used c d ps) (t : Turned S W W') (hs : ∀ b, S b → b ≠ N ∧ ¬ mineD Nd g b ∧ ∃ cs T, W.heap[b]? = Option.some (Obj.cells cs T (0, 0))) : StoreG W' B N Nd g fr sz used c d ps := by
  obtain ⟨m, n, cs, st, ts, h1, h2, h3⟩ := h
  refine ⟨m, n, cs, st, ts, ⟨h1.held.of_turned t (fun hb => (hs _ hb).1 rfl), h1.ok, h1.disk.keep t (fun b hb hb2 => (hs b hb2).2.1 hb), h1.map.keep t (fun hb => ?_), h1.apart⟩, h2, h3⟩
  obtain ⟨_, _, cs, T, hc⟩ := hs _ hb
  obtain ⟨es, clock, hm⟩ := h1.map.block
  rw [hc] at hm
  cases hm
theorem LawQ.side {S : Nat → Prop} (h : LawQ w0 W N Nd g sz used c d ps l last) (t : Turned S W W') (hs : ∀ b, S b → w0.heap.size ≤ b ∧ b ≠ N ∧ ¬ mineD Nd g b ∧ ∃ cs T, W.heap[b]? = some (.cells cs T (0, 0))) : LawQ w0 W' N Nd g sz used c d ps l last :=
  ⟨⟨h.s.s.side t (fun b hb => (hs b hb).2), h.s.lo.trans (t.below h.s.lo.size (fun b hb => (hs b hb).1))⟩, h.q, h.pw⟩
theorem turned_cells {b : Nat} {cs : Array Value} {T : TypeId} (t : Turned (MineG W N Nd g) W W') (hb : W.heap[b]? = some (.cells cs T (0, 0))) (hN : b ≠ N) (hD : ¬ mineD Nd g b) : W'.heap[b]? = some (.cells cs T (0, 0)) :=
  t.heap hb fun h => by
    rcases h with h | h | ⟨es, clock, h⟩
    · exact hN h
    · exact hD h
    · rw [hb] at h
      cases h
end
end Go.Proofs.YtgpdplffljidbaaGreatDoor
namespace Go.Proofs.YtgpdplffljidbaaGreatDoor
open Go.RowKit Go.Maps

section
variable {W W' : World} {B N Nd g m fr sz used c : Nat} {d : Dk} {ps : List PairP}
theorem StoreM.keeps {S : Nat → Prop} (h : StoreM W B N Nd g m fr sz used c d ps) (t : Turned S W W') (hN : ¬ S N) (hD : ∀ b, mineD Nd g b → ¬ S b) (hm : ¬ S m) : StoreM W' B N Nd g m fr sz used c d ps := by
  obtain ⟨n, cs, st, ts, h1, h2⟩ := h
  exact ⟨n, cs, st, ts, ⟨h1.held.of_turned t hN, h1.ok, h1.disk.keep t hD, h1.map.keep t hm, h1.apart⟩, h2⟩
theorem StoreM.down {B' : Nat} (h : StoreM W B N Nd g m fr sz used c d ps) (hB : B' ≤ B) : StoreM W B' N Nd g m fr sz used c d ps := by
  obtain ⟨n, cs, st, ts, h1, h2, h3, h4, h5, h6, h7, h8⟩ := h
  exact ⟨n, cs, st, ts, ⟨h1.held, h1.ok, ⟨Nat.le_trans hB h1.disk.bN, Nat.le_trans hB h1.disk.bg, h1.disk.ne, h1.disk.ok, h1.disk.few, h1.disk.mem⟩, h1.map, h1.apart⟩, h2, h3, h4, h5, Nat.le_trans hB h6, Nat.le_trans hB h7, h8⟩
theorem StoreM.below (h : StoreM W B N Nd g m fr sz used c d ps) (hb : Below W.heap.size W W') : StoreM W' B N Nd g m fr sz used c d ps :=
  h.keeps (S := fun _ => False) (Turned.of_below hb (Nat.le_refl _)) id (fun _ _ => id) id
theorem StoreM.bases (h : StoreM W B N Nd g m fr sz used c d ps) : B ≤ N ∧ B ≤ m ∧ ∀ b, mineD Nd g b → B ≤ b := by
  obtain ⟨n, cs, st, ts, h1, h2, h3, h4, h5, h6, h7, h8⟩ := h
  exact ⟨h6, h7, fun b hb => (h1.disk.blocks b hb).1⟩
end
theorem text_self (s : ByteArray) : textQ s.data.toList = s := by
  obtain ⟨⟨l⟩⟩ := s
  rfl
theorem goodM_put {w0 W : World} {B N Nd g m sz used c : Nat} {d : Dk} {ps : List PairP} (h : StoreM W B N Nd g m 0 sz used c d ps) (hB : B ≤ W.heap.size) (hc : c ≤ 380) (B1 : Nat) (v : Value) (cs : List Ch) (hv : OwnC9 B1 W v cs) (hN : N < B1) (hD : ∀ b, mineD Nd g b → b < B1) (hl : cs.length ≤ 200) (hpl : (printL cs).length ≤ 300000) (hlo : Below w0.heap.size w0 W) (hw : w0.heap.size ≤ B) :
    Calls Tryz.prog 18 #[.pointer (some ⟨N, 0, none⟩), v] W fun e W' => ∃ d' m', e = .returned (.int .i64 (commitP sz (used, ps) cs).2) ∧
      StoreM W' B N Nd g m' 0 sz (commitP sz (used, ps) cs).1.1 (c + 1) d' (commitP sz (used, ps) cs).1.2 ∧ Turned (mineS N Nd g m) W W' ∧ Below B W W' ∧ Below w0.heap.size w0 W' ∧ (m' = m ∨ W.heap.size ≤ m') := by
  refine (commit_goodM W B W.heap.size N Nd g m 0 sz used c d ps h hB hc v cs hv.at (Nat.le_refl _) (fun b hb => ?_) hl (fun _ => hpl)).mono ?_
  · have hlt := (World.ownsRow.lt hv b hb).1
    exact ⟨fun e => by omega, fun hd => by have := hD b hd; omega⟩
  · rintro e W' ⟨d', m', rfl, h1, _, _, h2, h3, h4⟩
    exact ⟨d', m', rfl, h1, h2, h3, hlo.trans (h3.mono hw), h4⟩
theorem goodM_q {w0 W : World} {N Nd g m sz used c : Nat} {d : Dk} {ps : List PairP} {l : List ItemS} {last : Nat} (h : StoreM W w0.heap.size N Nd g m 0 sz used c d ps) (hlo : Below w0.heap.size w0 W) (hq : QueueP ps l last) (hp : PowIs w0) : LawQ w0 W N Nd g sz used c d ps l last := ⟨⟨h.good, hlo⟩, hq, hp⟩
end Go.Proofs.YtgpdplffljidbaaGreatDoor
