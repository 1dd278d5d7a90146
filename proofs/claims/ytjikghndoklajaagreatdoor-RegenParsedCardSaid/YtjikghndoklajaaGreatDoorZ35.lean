/-
  Texts of this proof, put together: MmF, MmH, MmI, MmG.
-/
import Derived.Test.YtjikghndoklajaaGreatDoorZ34
import Derived.Deep.RegionHeld3
namespace Go.Proofs.YtjikghndoklajaaGreatDoor
open Go.RowKit

theorem mreader_any (Cb Rb : Nat) (m : Int) : ∀ (d j : Nat), j + d = 4 → ∀ (s : ByteArray) (n : Nat) (w : World), s.size ≤ 90000 → n ≤ 16 → RdOk Cb Rb m n w →
    Calls Tryz.prog 14 #[.string s, .int .i64 (j : Int), .pointer (some ⟨Cb, 0, none⟩), .pointer (some ⟨Rb, 0, none⟩)] w (ReadPost (partM d s.data.toList n) Cb w)
  | 0, j, hj, s, n, w, hs, hn, hk => mreader_step Cb Rb m 0 j hj (fun d' h => by cases h) s n w hs hn hk
  | d + 1, j, hj, s, n, w, hs, hn, hk => mreader_step Cb Rb m (d + 1) j hj (fun d' h s n w h1 h2 h3 => by
      cases h
      have := mreader_any Cb Rb m d (j + 1) (by omega) s n w h1 h2 h3
      rw [show (((j + 1 : Nat)) : Int) = (j : Int) + 1 by omega] at this
      exact this) s n w hs hn hk
theorem store_fnM {P : Program} {w : World} {a : Addr} {m : Mode} (fn : Fn) (first captured : Array Value) : (store a (.func fn first captured) m).run P w = stored P w a (.func fn first captured) m := run_store P w a _ m rfl
section
attribute [local go_sem] Oper.semAt_some store_fnM
theorem newreader_any (w : World) : Calls Tryz.prog 9 #[] w fun e w' => e = .returned (readerV w.heap.size (w.heap.size + 1)) ∧ w' = (w.alloc (.cells #[.int .i64 0] 3)).alloc (.cells #[readerV w.heap.size (w.heap.size + 1)] 40) := by
  have hmf : ∀ (fn : Fn) (first cap : Array Value) (w : World), (Instr.makeFunc fn first cap).run Tryz.prog w = .ok (.func fn first cap) w := fun _ _ _ _ => rfl
  unfold readerV
  go_enter Tryz.func9, Tryz.ntmps9
  go_wp2
  go_ret
  exact ⟨rfl, rfl⟩
end
def ParsePostM (s : TextH) (w : World) (e : Ending) (w' : World) : Prop :=
  ∃ fv pv rv, e = .returned (.tuple #[partV (parseM s).1 fv pv rv, .int .i64 (parseM s).2]) ∧ TreeP w' (fun g => w.heap.size ≤ g) (parseM s).1 fv pv rv ∧ Below w.heap.size w w'

set_option maxRecDepth 100000 in
set_option maxHeartbeats 8000000 in
theorem mparse_any (s : ByteArray) (m : Int) (w : World) (hs : s.size ≤ 1000000) (hm : w.cell? ⟨0, 0, none⟩ = some (.int .i64 m)) :
    Calls Tryz.prog 5 #[.string s] w (ParsePostM s.data.toList w) := by
  obtain ⟨w1, hw1⟩ : ∃ w1, w.alloc (.cells #[.slice none 0 0, .string ⟨#[]⟩, .string ⟨#[]⟩, .slice none 0 0, .string ⟨#[]⟩, .slice none 0 0] 29) = w1 := ⟨_, rfl⟩
  have b1 : Below w.heap.size w w1 := by rw [← hw1]; exact (Below.refl _ _).alloc (Nat.le_refl _) _
  have z1 : w1.heap.size = w.heap.size + 1 := by rw [← hw1]; simp
  have p1 : PrtAt w1 w.heap.size (.slice none 0 0) (.string ⟨#[]⟩) (.string ⟨#[]⟩) (.slice none 0 0) (.string ⟨#[]⟩) (.slice none 0 0) := by rw [← hw1]; exact prt_new w _ _ _ _ _ _
  have hsl : s.data.toList.length = s.size := rfl
  by_cases h : 16384 < s.size
  · have e : parseM s.data.toList = (nilM, 3) := by unfold parseM; rw [if_pos (by omega)]
    obtain ⟨y0, y1, y2, y3, y4, y5, v0, v1, v2, v3, v4, v5⟩ := p1.cells
    have pk := (p1.put (.slice none 0 0) (.string ⟨#[]⟩) (.string ⟨#[]⟩) (.slice none 0 0) (.string ⟨#[]⟩) (.slice none 0 0)).cells
    unfold putP at pk
    obtain ⟨k0, k1, k2, k3, k4, k5, _⟩ := pk
    have Fin : Hid (ParsePostM s.data.toList w (.returned (.tuple #[.agg #[.slice none 0 0, .string ⟨#[]⟩, .string ⟨#[]⟩, .slice none 0 0, .string ⟨#[]⟩, .slice none 0 0], .int .i64 3])) (putP w1 w.heap.size (.slice none 0 0) (.string ⟨#[]⟩) (.string ⟨#[]⟩) (.slice none 0 0) (.string ⟨#[]⟩) (.slice none 0 0))) := Lib.hid (by
      unfold ParsePostM
      rw [e]
      exact ⟨.slice none 0 0, .slice none 0 0, .slice none 0 0, rfl, TreeP.nil _ _, below_putP b1 (Nat.le_refl _) (.slice none 0 0) (.string ⟨#[]⟩) (.string ⟨#[]⟩) (.slice none 0 0) (.string ⟨#[]⟩) (.slice none 0 0)⟩)
    clear e hsl b1 p1 z1
    have hI : (16384 : Int) < (s.size : Int) := by omega
    clear h hs
    go_enter Tryz.func5, Tryz.ntmps5
    go_wp2
    refine bodyPost_ret (v := .tuple #[.agg #[.slice none 0 0, .string ⟨#[]⟩, .string ⟨#[]⟩, .slice none 0 0, .string ⟨#[]⟩, .slice none 0 0], .int .i64 3]) (by simp [results, Tryz.f5, go_sem, k0, k1, k2, k3, k4, k5]) rfl Fin.out
  · have e : parseM s.data.toList = ((partM 4 s.data.toList 0).1, (partM 4 s.data.toList 0).2.2) := by unfold parseM; rw [if_neg (by omega)]
    have hnr := newreader_any w1
    obtain ⟨w2, hw2⟩ : ∃ w2, (w1.alloc (.cells #[.int .i64 0] 3)).alloc (.cells #[readerV w1.heap.size (w1.heap.size + 1)] 40) = w2 := ⟨_, rfl⟩
    have b2 : Below w1.heap.size w1 w2 := by rw [← hw2]; exact ((Below.refl _ _).alloc (Nat.le_refl _) _).alloc (by simp) _
    have z2 : w2.heap.size = w1.heap.size + 2 := by rw [← hw2]; simp
    have hmw := cell_ltP hm
    have k2 : RdOk w1.heap.size (w1.heap.size + 1) m 0 w2 := by
      refine ⟨?_, ?_, by omega, (b2.cell (p := ⟨0, 0, none⟩) (by show 0 < _; omega)).trans ((b1.cell (p := ⟨0, 0, none⟩) hmw).trans hm), by omega⟩
      · rw [← hw2]
        exact (heap_alloc_old (w1.alloc (.cells #[.int .i64 0] 3)) _ (by simp)).trans (heap_alloc_new w1 _)
      · rw [← hw2]
        have := heap_alloc_new (w1.alloc (.cells #[.int .i64 0] 3)) (.cells #[readerV w1.heap.size (w1.heap.size + 1)] 40)
        rw [World.size_alloc] at this
        exact this
    rw [hw2] at hnr
    have hrd := mreader_any w1.heap.size (w1.heap.size + 1) m 4 0 rfl s 0 w2 (by omega) (by omega) k2
    obtain ⟨r, hr⟩ : ∃ r, partM 4 s.data.toList 0 = r := ⟨_, rfl⟩
    rw [hr] at hrd e
    obtain ⟨q, c2, er⟩ := r
    obtain ⟨QX, hQX⟩ : ∃ QX, textQ q.typ.1 = QX := ⟨_, rfl⟩
    obtain ⟨QY, hQY⟩ : ∃ QY, textQ q.typ.2.1 = QY := ⟨_, rfl⟩
    obtain ⟨QD, hQD⟩ : ∃ QD, textQ q.body = QD := ⟨_, rfl⟩
    have hrd2 : Calls Tryz.prog 14 #[.string s, .int .i64 0, .pointer (some ⟨w1.heap.size, 0, none⟩), .pointer (some ⟨w1.heap.size + 1, 0, none⟩)] w2 fun e w' => ∃ a5 n5 q5 a6 n6 q6 a7 n7 q7, e = .returned (.tuple #[.agg #[.slice a5 n5 q5, .string QX, .string QY, .slice a6 n6 q6, .string QD, .slice a7 n7 q7], .int .i64 er]) ∧ Hid (TakeK w1.heap.size w2.heap.size w2 w' ∧ TreeP w' (fun g => w2.heap.size ≤ g) q (.slice a5 n5 q5) (.slice a6 n6 q6) (.slice a7 n7 q7)) := hrd.mono fun e w' ⟨h1, h2, fv, pv, rv, h3, h4⟩ => by
      obtain ⟨⟨a5, n5, q5, rfl⟩, ⟨a6, n6, q6, rfl⟩, ⟨a7, n7, q7, rfl⟩⟩ := h4.slices
      exact ⟨_, _, _, _, _, _, _, _, _, by rw [h3, ← hQX, ← hQY, ← hQD]; rfl, Lib.hid ⟨h1, h4⟩⟩
    have HQ := Lib.hid (And.intro (And.intro hQX hQY) (And.intro hQD e))
    have B2 := Lib.hid (And.intro (And.intro b1 p1) b2)
    have er2 := enter_reader
    have hI : (s.size : Int) ≤ 16384 := by omega
    clear hQX hQY hQD e hrd hr k2 b1 p1 b2 hsl hw2 h hs
    have Z := Lib.hid (And.intro z1 z2)
    clear z1 z2
    unfold readerV at hnr
    go_enter Tryz.func5, Tryz.ntmps5
    go_wp2_with fail
    refine hnr.mono ?_
    rintro e w9 ⟨rfl, h9⟩
    obtain rfl := h9.symm
    clear hnr h9
    go_wp2_with fail
    refine hrd2.mono ?_
    rintro e w3 ⟨a5, n5, q5, a6, n6, q6, a7, n7, q7, rfl, hx⟩
    have hzz := Z.out
    have p3 : PrtAt w3 w.heap.size (.slice none 0 0) (.string ⟨#[]⟩) (.string ⟨#[]⟩) (.slice none 0 0) (.string ⟨#[]⟩) (.slice none 0 0) := hx.out.1.heap (B2.out.1.2.below B2.out.2) (by omega) (by omega)
    obtain ⟨y0, y1, y2, y3, y4, y5, v0, v1, v2, v3, v4, v5⟩ := p3.cells
    have pk := (p3.put (.slice a5 n5 q5) (.string QX) (.string QY) (.slice a6 n6 q6) (.string QD) (.slice a7 n7 q7)).cells
    unfold putP at pk
    obtain ⟨k0, k1, k2, k3, k4, k5, _⟩ := pk
    have Fin : Hid (ParsePostM s.data.toList w (.returned (.tuple #[.agg #[.slice a5 n5 q5, .string QX, .string QY, .slice a6 n6 q6, .string QD, .slice a7 n7 q7], .int .i64 er])) (putP w3 w.heap.size (.slice a5 n5 q5) (.string QX) (.string QY) (.slice a6 n6 q6) (.string QD) (.slice a7 n7 q7))) := Lib.hid (by
      unfold ParsePostM
      rw [HQ.out.2.2]
      refine ⟨.slice a5 n5 q5, .slice a6 n6 q6, .slice a7 n7 q7, by rw [← HQ.out.1.1, ← HQ.out.1.2, ← HQ.out.2.1]; rfl, hx.out.2.to fun g hg _ => ⟨by omega, fun jj => cell_block (putP_block (by omega) (.slice a5 n5 q5) (.string QX) (.string QY) (.slice a6 n6 q6) (.string QD) (.slice a7 n7 q7))⟩, ?_⟩
      exact below_putP ((B2.out.1.1.trans (B2.out.2.mono (by omega))).trans (hx.out.1.below (by omega) (by omega))) (Nat.le_refl _) (.slice a5 n5 q5) (.string QX) (.string QY) (.slice a6 n6 q6) (.string QD) (.slice a7 n7 q7))
    clear hx p3 hzz
    go_wp2
    refine bodyPost_ret (v := .tuple #[.agg #[.slice a5 n5 q5, .string QX, .string QY, .slice a6 n6 q6, .string QD, .slice a7 n7 q7], .int .i64 er]) (by simp [results, Tryz.f5, go_sem, k0, k1, k2, k3, k4, k5]) rfl Fin.out
end Go.Proofs.YtjikghndoklajaaGreatDoor
namespace Go.Proofs.YtjikghndoklajaaGreatDoor
open Go.RowKit

mutual
def nodesM : TreeM → List TreeM
  | .mk f t b l => .mk f t b l :: nodessM l
def nodessM : List TreeM → List TreeM
  | [] => []
  | p :: l => nodesM p ++ nodessM l
end
theorem nodes_parts (p : TreeM) : nodesM p = p :: nodessM p.parts := by
  obtain ⟨_, _, _, _⟩ := p
  unfold nodesM
  rfl
theorem nodess_take (l : List TreeM) (i : Nat) (h : i < l.length) : nodessM (l.take (i + 1)) = nodessM (l.take i) ++ nodesM l[i] := by
  induction l generalizing i with
  | nil => cases h
  | cons p l ih =>
    match i, h with
    | 0, _ =>
      show nodesM p ++ [] = [] ++ nodesM p
      rw [List.append_nil, List.nil_append]
    | i + 1, h =>
      show nodesM p ++ nodessM (l.take (i + 1)) = (nodesM p ++ nodessM (l.take i)) ++ _
      rw [ih i (by simpa using h), List.append_assoc]
      rfl
theorem nodess_mem {l : List TreeM} {p q : TreeM} (hp : p ∈ l) (hq : q ∈ nodesM p) : q ∈ nodessM l := by
  induction l with
  | nil => cases hp
  | cons a l ih =>
    unfold nodessM
    rcases List.mem_cons.1 hp with rfl | hp
    · exact List.mem_append_left _ hq
    · exact List.mem_append_right _ (ih hp)
mutual
theorem nodes_len : ∀ p : TreeM, (nodesM p).length = countM p
  | .mk f t b l => by
    unfold nodesM countM
    rw [List.length_cons, nodess_len l]
    omega
theorem nodess_len : ∀ l : List TreeM, (nodessM l).length = countsM l
  | [] => rfl
  | p :: l => by
    unfold nodessM countsM
    rw [List.length_append, nodes_len p, nodess_len l]
end
theorem counts_le (l : List TreeM) (i : Nat) : countsM (l.take i) ≤ countsM l := by
  induction l generalizing i with
  | nil => simp [countsM]
  | cons p l ih =>
    match i with
    | 0 => exact Nat.zero_le _
    | i + 1 =>
      show countM p + countsM (l.take i) ≤ countM p + countsM l
      have := ih i
      omega

structure Moves {σ : Type} (J : σ → World → Nat → Prop) (st : σ) (W : World) (st' : σ) (W' : World) : Prop where
  os : W'.os = W.os
  tape : W'.tape = W.tape
  output : W'.output = W.output
  size : W.heap.size ≤ W'.heap.size
  keep : ∀ k, k < W.heap.size → ¬ J st W k → ¬ J st' W' k ∧ W'.heap[k]? = W.heap[k]?
structure ShowW {σ : Type} (g : Nat) (lb : Array Value) (f : σ → TreeM → σ) (I : σ → World → Prop) (J : σ → World → Nat → Prop) (B M : Nat) (lim : σ → Nat) (okp : TreeM → Prop) : Prop where
  step : ∀ st p, lim (f st p) ≤ lim st + 1
  base : ∀ st W k, J st W k → B ≤ k
  below : ∀ st W W', I st W → B ≤ W.heap.size → Below W.heap.size W W' → I st W' ∧ Moves J st W st W' ∧ ∀ k, W.heap.size ≤ k → ¬ J st W' k
  call : ∀ st p fv pv rv W, I st W → B ≤ W.heap.size → TreeAt W B p fv pv rv → okp p → lim st < M → Calls Tryz.prog g (#[partV p fv pv rv] ++ lb) W fun e w' => e = .returned (.tuple #[]) ∧ I (f st p) w' ∧ Moves J st W (f st p) w'
section
variable {σ : Type} {J : σ → World → Nat → Prop} {st st' st'' : σ} {W W' W'' : World}
theorem Moves.trans (h : Moves J st W st' W') (k : Moves J st' W' st'' W'') : Moves J st W st'' W'' :=
  ⟨k.os.trans h.os, k.tape.trans h.tape, k.output.trans h.output, Nat.le_trans h.size k.size, fun i hi hj => by
    obtain ⟨h1, h2⟩ := h.keep i hi hj
    obtain ⟨k1, k2⟩ := k.keep i (Nat.lt_of_lt_of_le hi h.size) h1
    exact ⟨k1, k2.trans h2⟩⟩
theorem Moves.below {B : Nat} (h : Moves J st W st' W') (hJ : ∀ k, J st W k → B ≤ k) (hB : B ≤ W.heap.size) : Below B W W' := ⟨h.os, h.tape, h.output, h.size, fun k hk => (h.keep k (by omega) (fun hj => by have := hJ k hj; omega)).2⟩
end
theorem TreeP.kid {w : World} {P : Nat → Prop} {p : TreeM} {fv pv : Value} {ao : Option Addr} {n cap : Nat} (h : TreeP w P p fv pv (.slice ao n cap)) (i : Nat) (hi : i < p.parts.length) : ∃ g off a1 n1 c1 a2 n2 c2 a3 n3 c3, ao = some ⟨g, off, none⟩ ∧ P g ∧
      w.cell? ⟨g, off + i * 6, none⟩ = some (.slice a1 n1 c1) ∧ w.cell? ⟨g, off + i * 6 + 1, none⟩ = some (.string (textQ p.parts[i].typ.1)) ∧ w.cell? ⟨g, off + i * 6 + 2, none⟩ = some (.string (textQ p.parts[i].typ.2.1)) ∧
      w.cell? ⟨g, off + i * 6 + 3, none⟩ = some (.slice a2 n2 c2) ∧ w.cell? ⟨g, off + i * 6 + 4, none⟩ = some (.string (textQ p.parts[i].body)) ∧ w.cell? ⟨g, off + i * 6 + 5, none⟩ = some (.slice a3 n3 c3) ∧
      TreeP w P p.parts[i] (.slice a1 n1 c1) (.slice a2 n2 c2) (.slice a3 n3 c3) := by
  obtain ⟨g, off, fv, pv, rv, h1, h2, z0, z1, z2, z3, z4, z5, hk⟩ := h.r.cells i hi
  obtain ⟨⟨a1, n1, c1, rfl⟩, ⟨a2, n2, c2, rfl⟩, ⟨a3, n3, c3, rfl⟩⟩ := hk.slices
  exact ⟨g, off, a1, n1, c1, a2, n2, c2, a3, n3, c3, h1, h2, z0, z1, z2, z3, z4, z5, hk⟩
theorem TreeP.len {w : World} {P : Nat → Prop} {p : TreeM} {fv pv rv : Value} (h : TreeP w P p fv pv rv) : ∃ ao cap, rv = .slice ao p.parts.length cap ∧ p.parts.length ≤ cap ∧ cap ≤ maxLen := h.r.slice

set_option maxRecDepth 100000 in
set_option maxHeartbeats 8000000 in
theorem mwalk_any {σ : Type} (g : Nat) (lb : Array Value) (eg : ∀ args w, (callFunc g args).run Tryz.prog w = .ok (.enter g args) w) (f : σ → TreeM → σ) (I : σ → World → Prop) (J : σ → World → Nat → Prop) (B M : Nat) (lim : σ → Nat) (okp : TreeM → Prop) (S : ShowW g lb f I J B M lim okp) :
    ∀ (k : Nat) (p : TreeM) (fv pv rv : Value) (st : σ) (W : World), countM p ≤ k → I st W → B ≤ W.heap.size → TreeAt W B p fv pv rv → (∀ q ∈ nodesM p, okp q) → lim st + countM p ≤ M →
    Calls Tryz.prog 11 #[partV p fv pv rv, .func (.func g) #[] lb] W fun e w' => e = .returned (.tuple #[]) ∧ I ((nodesM p).foldl f st) w' ∧ Moves J st W ((nodesM p).foldl f st) w'
  | 0, p, _, _, _, _, _, hk, _, _, _, _, _ => by
    have := count_pos p
    omega
  | k + 1, p, fv, pv, rv, st, w, hk, hI, hB, hT, hok, hlim => by
    obtain ⟨⟨a1, n1, c1, rfl⟩, ⟨a2, n2, c2, rfl⟩, _⟩ := hT.slices
    obtain ⟨a3, c3, rfl, hc3, hm3⟩ := hT.len
    have ih := Lib.hid (mwalk_any g lb eg f I J B M lim okp S k)
    have hS := Lib.hid S
    unfold partV
    unfold maxLen at hm3
    obtain ⟨X, hX⟩ : ∃ X, textQ p.typ.1 = X := ⟨_, rfl⟩
    obtain ⟨Y, hY⟩ : ∃ Y, textQ p.typ.2.1 = Y := ⟨_, rfl⟩
    obtain ⟨D, hD⟩ : ∃ D, textQ p.body = D := ⟨_, rfl⟩
    obtain ⟨n3, hn3⟩ : ∃ n3, p.parts.length = n3 := ⟨_, rfl⟩
    rw [hn3] at hc3
    rw [hX, hY, hD, hn3]
    rw [hn3] at hT
    obtain ⟨w1, hw1⟩ : ∃ w1, w.alloc (.cells #[.slice a1 n1 c1, .string X, .string Y, .slice a2 n2 c2, .string D, .slice a3 n3 c3] 29) = w1 := ⟨_, rfl⟩
    have b1 : Below w.heap.size w w1 := by rw [← hw1]; exact (Below.refl _ _).alloc (Nat.le_refl _) _
    have z1 : w.heap.size < w1.heap.size := by rw [← hw1]; simp
    have p1 : PrtAt w1 w.heap.size (.slice a1 n1 c1) (.string X) (.string Y) (.slice a2 n2 c2) (.string D) (.slice a3 n3 c3) := by rw [← hw1]; exact prt_new w _ _ _ _ _ _
    obtain ⟨hI1, hM1, hJ1⟩ := S.below st w w1 hI hB b1
    have hokp := hok p (by rw [nodes_parts]; exact List.mem_cons_self ..)
    have hcp := count_parts p
    have hcall := S.call st p (.slice a1 n1 c1) (.slice a2 n2 c2) (.slice a3 n3 c3) w1 hI1 (by omega) (hT.below b1 hB) hokp (by have := count_pos p; omega)
    unfold partV at hcall
    rw [hX, hY, hD] at hcall
    have hJB : Hid (∀ st W k, J st W k → B ≤ k) := Lib.hid S.base
    have hlm : Hid (∀ i, i ≤ n3 → lim ((nodessM (p.parts.take i)).foldl f (f st p)) ≤ lim st + 1 + countsM (p.parts.take i)) := Lib.hid (by
      intro i hi
      have hl : ∀ (l : List TreeM) (s : σ), lim (l.foldl f s) ≤ lim s + l.length := by
        intro l
        induction l with
        | nil => exact fun s => Nat.le_refl _
        | cons a l ih =>
          intro s
          have h1 := ih (f s a)
          have h2 := S.step s a
          rw [List.foldl_cons, List.length_cons]
          omega
      have h1 := hl (nodessM (p.parts.take i)) (f st p)
      have h2 := S.step st p
      have h3 := nodess_len (p.parts.take i)
      omega)
    obtain ⟨c0, c1', c2', c3', c4', c5', _⟩ := p1.cells
    have H1 := Lib.hid (And.intro (And.intro hM1 (hJ1 w.heap.size (Nat.le_refl _))) (And.intro p1 (And.intro (hT.below b1 hB) (And.intro hB (Nat.le_of_lt z1)))))
    have HX := Lib.hid (And.intro hn3 (And.intro hok (And.intro hk (And.intro hlim hcp))))
    clear hI hT hok hlim hk hI1 hM1 hJ1 p1 b1 hokp hcp hX hY hD hn3 S
    go_enter Tryz.func11, Tryz.ntmps11
    go_wp2_with fail
    refine hcall.mono ?_
    rintro e w2 ⟨rfl, hI2, hM2⟩
    have K2 : Hid (I (f st p) w2 ∧ Moves J st w (f st p) w2 ∧ (¬ J (f st p) w2 w.heap.size ∧ PrtAt w2 w.heap.size (.slice a1 n1 c1) (.string X) (.string Y) (.slice a2 n2 c2) (.string D) (.slice a3 n3 c3)) ∧ TreeAt w2 B p (.slice a1 n1 c1) (.slice a2 n2 c2) (.slice a3 n3 c3) ∧ B ≤ w2.heap.size) := Lib.hid (by
      obtain ⟨⟨m1, j1⟩, q1, t1, hB, hle⟩ := H1.out
      obtain ⟨j2, e2⟩ := hM2.keep w.heap.size z1 j1
      have hb2 : Below B w1 w2 := hM2.below (hJB.out _ _) (by omega)
      exact ⟨hI2, m1.trans hM2, ⟨j2, e2.trans q1⟩, t1.below hb2 (Nat.le_refl _), by have := hM2.size; omega⟩)
    obtain ⟨y0, y1, y2, y3, y4, y5, _⟩ := K2.out.2.2.1.2.cells
    have hz2 : w.heap.size < w2.heap.size := by have := hM2.size; omega
    clear hcall hI2 hM2 H1 c0 c1' c2' c3' c4' c5'
    go_wp2
    go_loopw [12] (fun iv wr => ∃ i : Nat, i ≤ n3 ∧ iv = .int .i64 i ∧ w.heap.size < wr.heap.size ∧ Hid (I ((nodessM (p.parts.take i)).foldl f (f st p)) wr ∧ Moves J st w ((nodessM (p.parts.take i)).foldl f (f st p)) wr ∧ TreeAt wr B p (.slice a1 n1 c1) (.slice a2 n2 c2) (.slice a3 n3 c3) ∧ B ≤ wr.heap.size)) (fun iv _ => n3 - (intOf iv).toNat)
    case atStart => exact ⟨0, by omega, rfl, hz2, Lib.hid ⟨K2.out.1, K2.out.2.1, K2.out.2.2.2.1, K2.out.2.2.2.2⟩⟩
    case round =>
      obtain ⟨i, hi, rfl, hzr, hkk⟩ := hrel
      clear K2
      by_cases hlt : i < n3
      · have hil : i < p.parts.length := by rw [HX.out.1]; exact hlt
        obtain ⟨gb, off, b1, m1, d1, b2, m2, d2, b3, m3, d3, rfl, hgB, x0, x1, x2, x3, x4, x5, hkid⟩ := hkk.out.2.2.1.kid i hil
        obtain ⟨PX, hPX⟩ : ∃ X, textQ p.parts[i].typ.1 = X := ⟨_, rfl⟩
        obtain ⟨PY, hPY⟩ : ∃ X, textQ p.parts[i].typ.2.1 = X := ⟨_, rfl⟩
        obtain ⟨PD, hPD⟩ : ∃ X, textQ p.parts[i].body = X := ⟨_, rfl⟩
        obtain ⟨w5, hw5⟩ : ∃ w5, wr.alloc (.cells #[.slice b1 m1 d1, .string PX, .string PY, .slice b2 m2 d2, .string PD, .slice b3 m3 d3] 29) = w5 := ⟨_, rfl⟩
        have b5 : Below wr.heap.size wr w5 := by rw [← hw5]; exact (Below.refl _ _).alloc (Nat.le_refl _) _
        have z5 : wr.heap.size < w5.heap.size := by rw [← hw5]; simp
        have p5 : PrtAt w5 wr.heap.size (.slice b1 m1 d1) (.string PX) (.string PY) (.slice b2 m2 d2) (.string PD) (.slice b3 m3 d3) := by rw [← hw5]; exact prt_new wr _ _ _ _ _ _
        obtain ⟨y0, y1, y2, y3, y4, y5, _⟩ := p5.cells
        obtain ⟨hI5, hM5, _⟩ := hS.out.below _ wr w5 hkk.out.1 hkk.out.2.2.2 b5
        have hct := counts_take p.parts i hil
        have hcl := counts_le p.parts (i + 1)
        have hrec := ih.out p.parts[i] (.slice b1 m1 d1) (.slice b2 m2 d2) (.slice b3 m3 d3) _ w5 (by have := HX.out.2.2.1; have := HX.out.2.2.2.2; omega) hI5 (by have := hkk.out.2.2.2; omega) (hkid.below b5 hkk.out.2.2.2) (fun q hq => HX.out.2.1 q (by rw [nodes_parts]; exact List.mem_cons_of_mem _ (nodess_mem (List.getElem_mem hil) hq))) (by have := hlm.out i hi; have := HX.out.2.2.2.1; have := HX.out.2.2.2.2; omega)
        unfold partV at hrec
        rw [hPX, hPY, hPD, ← List.foldl_append, ← nodess_take p.parts i hil] at hrec
        rw [hPX] at x1
        rw [hPY] at x2
        rw [hPD] at x4
        have K5 := Lib.hid (And.intro (hkk.out.2.1.trans hM5) (And.intro (hkk.out.2.2.1.below b5 hkk.out.2.2.2) (Nat.le_trans hkk.out.2.2.2 (Nat.le_of_lt z5))))
        clear hkk hkid hPX hPY hPD b5 p5 hI5 hM5 hct hcl hgB hil
        go_wp2_with (go_at_call 11
                     refine hrec.mono ?_
                     rintro e w6 ⟨rfl, hI6, hM6⟩
                     have K6 := Lib.hid (And.intro hI6 (And.intro (K5.out.1.trans hM6) (And.intro (K5.out.2.1.below (hM6.below (hJB.out _ _) K5.out.2.2) (Nat.le_refl _)) (Nat.le_trans K5.out.2.2 hM6.size))))
                     have z6 : w.heap.size < w6.heap.size := by have := hM6.size; omega
                     clear hI6 hM6 K5)
        go_roundw
        case rel => exact ⟨i + 1, by omega, by go_num, z6, K6⟩
        case measure => simp [intOf]; omega
      · obtain rfl : i = n3 := by omega
        have Fin : Hid (I ((nodesM p).foldl f st) wr ∧ Moves J st w ((nodesM p).foldl f st) wr) := Lib.hid (by
          rw [nodes_parts, List.foldl_cons]
          have e : p.parts.take i = p.parts := List.take_of_length_le (by rw [HX.out.1]; exact Nat.le_refl _)
          have := hkk.out
          rw [e] at this
          exact ⟨this.1, this.2.1⟩)
        clear hkk
        go_wp2
        exact bodyPost_end (results_none rfl _ _ _) rfl ⟨rfl, Fin.out⟩
end Go.Proofs.YtjikghndoklajaaGreatDoor
namespace Go.Proofs.YtjikghndoklajaaGreatDoor
open Go.RowKit

theorem enter_count : ∀ args w, (callFunc 29 args).run Tryz.prog w = .ok (.enter 29 args) w := enters_of Tryz.func29 (by kernel_rfl) rfl
set_option maxRecDepth 100000 in
theorem mcount1_any (T n : Nat) (a1 : Option Addr) (n1 c1 : Nat) (X Y : ByteArray) (a2 : Option Addr) (n2 c2 : Nat) (D : ByteArray) (a3 : Option Addr) (n3 c3 : Nat) (w : World) (h : Boxed w T 3 (.int .i64 (n : Int))) (hn : n < 1000000) :
    Calls Tryz.prog 29 #[.agg #[.slice a1 n1 c1, .string X, .string Y, .slice a2 n2 c2, .string D, .slice a3 n3 c3], .pointer (some ⟨T, 0, none⟩)] w fun e w' => e = .returned (.tuple #[]) ∧ Boxed w' T 3 (.int .i64 ((n + 1 : Nat) : Int)) ∧ TakeK T w.heap.size w w' := by
  obtain ⟨w1, hw1⟩ : ∃ w1, w.alloc (.cells #[.slice a1 n1 c1, .string X, .string Y, .slice a2 n2 c2, .string D, .slice a3 n3 c3] 29) = w1 := ⟨_, rfl⟩
  have b1 : Below w.heap.size w w1 := by rw [← hw1]; exact (Below.refl _ _).alloc (Nat.le_refl _) _
  have h1 := boxed_below h b1
  have c1' := h1.cell
  have f1 := Lib.frozen_of_heap h1 0
  have Fin := Lib.hid (show Boxed (w1.setCell ⟨T, 0, none⟩ (.int .i64 ((n : Int) + 1))) T 3 (.int .i64 ((n + 1 : Nat) : Int)) ∧ TakeK T w.heap.size w (w1.setCell ⟨T, 0, none⟩ (.int .i64 ((n : Int) + 1))) from ⟨h1.set _, (TakeK.of b1).set _⟩)
  clear h b1 h1
  go_enter Tryz.func29, Tryz.ntmps29
  go_wp2
  exact bodyPost_end (results_none rfl _ _ _) rfl ⟨rfl, Fin.out⟩
theorem count_shows (T B : Nat) (hB : B ≤ T) : ShowW 29 #[.pointer (some ⟨T, 0, none⟩)] (fun (n : Nat) (_ : TreeM) => n + 1) (fun n W => Boxed W T 3 (.int .i64 (n : Int))) (fun _ _ k => k = T) B 1000000 id (fun _ => True) where
  step := fun _ _ => Nat.le_refl _
  base := fun _ _ k h => by omega
  below := fun n W W' h _ hb => ⟨boxed_below h hb, ⟨hb.os, hb.tape, hb.output, hb.size, fun k hk hj => ⟨hj, hb.block k hk⟩⟩, fun k hk e => by have := h.lt; omega⟩
  call := fun n p fv pv rv W h _ ht _ hlim => by
    obtain ⟨⟨a1, n1, c1, rfl⟩, ⟨a2, n2, c2, rfl⟩, ⟨a3, n3, c3, rfl⟩⟩ := ht.slices
    refine (mcount1_any T n a1 n1 c1 (textQ p.typ.1) (textQ p.typ.2.1) a2 n2 c2 (textQ p.body) a3 n3 c3 W h hlim).mono ?_
    rintro e w' ⟨h1, h2, h3⟩
    exact ⟨h1, h2, ⟨h3.os, h3.tape, h3.output, h3.size, fun k hk hj => ⟨hj, h3.block k hk hj⟩⟩⟩
theorem fold_count (l : List TreeM) : ∀ n : Nat, l.foldl (fun (n : Nat) (_ : TreeM) => n + 1) n = n + l.length := by
  induction l with
  | nil => exact fun n => rfl
  | cons a l ih =>
    intro n
    rw [List.foldl_cons, ih, List.length_cons]
    omega

set_option maxRecDepth 100000 in
set_option maxHeartbeats 2000000 in
theorem mcount_any (B : Nat) (p : TreeM) (fv pv rv : Value) (w : World) (h : TreeAt w B p fv pv rv) (hB : B ≤ w.heap.size) (hc : countM p ≤ 1000000) :
    Calls Tryz.prog 17 #[partV p fv pv rv] w fun e w' => e = .returned (.int .i64 (countM p)) ∧ Below w.heap.size w w' := by
  obtain ⟨⟨a1, n1, c1, rfl⟩, ⟨a2, n2, c2, rfl⟩, ⟨a3, n3, c3, rfl⟩⟩ := h.slices
  obtain ⟨w0, hw0⟩ : ∃ w0, w.alloc (.cells #[.slice a1 n1 c1, .string (textQ p.typ.1), .string (textQ p.typ.2.1), .slice a2 n2 c2, .string (textQ p.body), .slice a3 n3 c3] 29) = w0 := ⟨_, rfl⟩
  have b0 : Below w.heap.size w w0 := by rw [← hw0]; exact (Below.refl _ _).alloc (Nat.le_refl _) _
  have z0 : w.heap.size < w0.heap.size := by rw [← hw0]; simp
  have p0 : PrtAt w0 w.heap.size (.slice a1 n1 c1) (.string (textQ p.typ.1)) (.string (textQ p.typ.2.1)) (.slice a2 n2 c2) (.string (textQ p.body)) (.slice a3 n3 c3) := by rw [← hw0]; exact prt_new w _ _ _ _ _ _
  obtain ⟨w5, hw5⟩ : ∃ w5, w0.alloc (.cells #[.int .i64 0] 3) = w5 := ⟨_, rfl⟩
  have x5 : Boxed w5 w0.heap.size 3 (.int .i64 0) := by rw [← hw5]; exact Boxed.new _ _ _
  have j0 := x5.cell
  have j1 := Lib.frozen_of_heap x5 0
  obtain ⟨w1, hw1⟩ : ∃ w1, w5.setCell ⟨w0.heap.size, 0, none⟩ (.int .i64 0) = w1 := ⟨_, rfl⟩
  have b1 : Below w0.heap.size w0 w1 := by rw [← hw1, ← hw5]; exact ((Below.refl _ _).alloc (Nat.le_refl _) _).setCell (p := ⟨w0.heap.size, 0, none⟩) (Nat.le_refl _) _
  have x1 : Boxed w1 w0.heap.size 3 (.int .i64 ((0 : Nat) : Int)) := by rw [← hw1]; exact x5.set _
  have hwalk := mwalk_any 29 #[.pointer (some ⟨w0.heap.size, 0, none⟩)] enter_count (fun (n : Nat) (_ : TreeM) => n + 1) (fun n W => Boxed W w0.heap.size 3 (.int .i64 (n : Int))) (fun _ _ k => k = w0.heap.size) w.heap.size 1000000 id (fun _ => True) (count_shows w0.heap.size w.heap.size (Nat.le_of_lt z0))
    (countM p) p (.slice a1 n1 c1) (.slice a2 n2 c2) (.slice a3 n3 c3) 0 w1 (Nat.le_refl _) x1 (by have := b1.size; omega) (((h.below b0 hB).below b1 (by omega)).up hB) (fun _ _ => trivial) (by show 0 + _ ≤ _; omega)
  rw [fold_count, nodes_len, Nat.zero_add] at hwalk
  unfold partV at hwalk ⊢
  obtain ⟨X, hX⟩ : ∃ X, textQ p.typ.1 = X := ⟨_, rfl⟩
  obtain ⟨Y, hY⟩ : ∃ Y, textQ p.typ.2.1 = Y := ⟨_, rfl⟩
  obtain ⟨D, hD⟩ : ∃ D, textQ p.body = D := ⟨_, rfl⟩
  obtain ⟨n, hn⟩ : ∃ n, countM p = n := ⟨_, rfl⟩
  rw [hX, hY, hD] at hw0 p0 hwalk ⊢
  rw [hn] at hwalk ⊢
  have q1 := p0.below b1
  obtain ⟨c0, c1', c2', c3', c4', c5', _⟩ := q1.cells
  have hmf : ∀ (fn : Fn) (first cap : Array Value) (w : World), (Instr.makeFunc fn first cap).run Tryz.prog w = .ok (.func fn first cap) w := fun _ _ _ _ => rfl
  have B1 := Lib.hid (And.intro (b0.trans (b1.mono (by omega))) z0)
  have hz1 := b1.size
  clear h hB hc p0 b0 b1 x1 x5 hX hY hD hn q1
  go_enter Tryz.func17, Tryz.ntmps17
  go_wp2_with fail
  refine hwalk.mono ?_
  rintro e w2 ⟨rfl, h2, hm⟩
  have c := h2.cell
  have Fin := Lib.hid (B1.out.1.trans (hm.below (B := w.heap.size) (fun k (hk : k = w0.heap.size) => by have := B1.out.2; omega) (by have := B1.out.2; omega)))
  clear hwalk h2 hm
  go_wp2
  go_ret
  exact ⟨rfl, Fin.out⟩
end Go.Proofs.YtjikghndoklajaaGreatDoor
namespace Go.Proofs.YtjikghndoklajaaGreatDoor
open Go.RowKit

set_option maxRecDepth 100000 in
set_option maxHeartbeats 4000000 in
theorem mcopyf_any (X Y : ByteArray) (w : World) (h1 : X.size ≤ 100000000) (h2 : Y.size ≤ 100000000) :
    Calls Tryz.prog 21 #[.agg #[.string X, .string Y]] w fun e w' => e = .returned (.agg #[.string X, .string Y]) ∧ Below w.heap.size w w' := by
  obtain ⟨w0, hw0⟩ : ∃ w0, (w.alloc (.cells #[.string X, .string Y] 38)).alloc (.cells #[.string ⟨#[]⟩, .string ⟨#[]⟩] 38) = w0 := ⟨_, rfl⟩
  have z0 : w0.heap.size = w.heap.size + 2 := by rw [← hw0]; simp
  have b0 : Below w.heap.size w w0 := by rw [← hw0]; exact ((Below.refl _ _).alloc (Nat.le_refl _) _).alloc (by simp) _
  have a0 : w0.heap[w.heap.size]? = some (.cells #[.string X, .string Y] 38 (0, 0)) := by
    rw [← hw0]
    exact (heap_alloc_old _ _ (by simp)).trans (heap_alloc_new w _)
  have r0 : w0.heap[w.heap.size + 1]? = some (.cells #[.string ⟨#[]⟩, .string ⟨#[]⟩] 38 (0, 0)) := by
    rw [← hw0]
    have := heap_alloc_new (w.alloc (.cells #[.string X, .string Y] 38)) (.cells #[.string ⟨#[]⟩, .string ⟨#[]⟩] 38)
    rw [World.size_alloc] at this
    exact this
  have hS : Hid (∀ W, Below w0.heap.size w0 W → W.cell? ⟨w.heap.size, 0, none⟩ = some (.string X) ∧ W.cell? ⟨w.heap.size, 1, none⟩ = some (.string Y) ∧ W.cell? ⟨w.heap.size + 1, 0, none⟩ = some (.string ⟨#[]⟩) ∧ W.cell? ⟨w.heap.size + 1, 1, none⟩ = some (.string ⟨#[]⟩) ∧ W.frozen? ⟨w.heap.size + 1, 0, none⟩ = false ∧ W.frozen? ⟨w.heap.size + 1, 1, none⟩ = false ∧ Below w0.heap.size w0 W) := Lib.hid fun W hW => by
    have e1 := (hW.block w.heap.size (by omega)).trans a0
    have e2 := (hW.block (w.heap.size + 1) (by omega)).trans r0
    exact ⟨Lib.cell_of_heap e1 0, Lib.cell_of_heap e1 1, Lib.cell_of_heap e2 0, Lib.cell_of_heap e2 1, Lib.frozen_of_heap e2 0, Lib.frozen_of_heap e2 1, hW⟩
  have hc : ∀ T (hT : T.size ≤ 100000000), Hid (∀ W, (W.cell? ⟨w.heap.size, 0, none⟩ = some (.string X) ∧ W.cell? ⟨w.heap.size, 1, none⟩ = some (.string Y) ∧ W.cell? ⟨w.heap.size + 1, 0, none⟩ = some (.string ⟨#[]⟩) ∧ W.cell? ⟨w.heap.size + 1, 1, none⟩ = some (.string ⟨#[]⟩) ∧ W.frozen? ⟨w.heap.size + 1, 0, none⟩ = false ∧ W.frozen? ⟨w.heap.size + 1, 1, none⟩ = false ∧ Below w0.heap.size w0 W) → Calls Tryz.prog 20 #[.string T] W fun e w' => e = .returned (.string T) ∧ (w'.cell? ⟨w.heap.size, 0, none⟩ = some (.string X) ∧ w'.cell? ⟨w.heap.size, 1, none⟩ = some (.string Y) ∧ w'.cell? ⟨w.heap.size + 1, 0, none⟩ = some (.string ⟨#[]⟩) ∧ w'.cell? ⟨w.heap.size + 1, 1, none⟩ = some (.string ⟨#[]⟩) ∧ w'.frozen? ⟨w.heap.size + 1, 0, none⟩ = false ∧ w'.frozen? ⟨w.heap.size + 1, 1, none⟩ = false ∧ Below w0.heap.size w0 w')) := fun T hT => Lib.hid fun W hW => by
    obtain ⟨_, _, _, _, _, _, hW⟩ := hW
    refine (sclone_any T W hT).mono ?_
    rintro e w' ⟨rfl, hb⟩
    exact ⟨rfl, hS.out _ (hW.trans (hb.mono hW.size))⟩
  have HX := hc X h1
  have HY := hc Y h2
  have hS0 := Lib.hid (hS.out w0 (Below.refl _ _))
  have hS1 := Lib.hid (hS.out _ (Below.refl w0.heap.size w0).drew)
  have B0 := Lib.hid (And.intro b0 r0)
  have hwk : Hid (∀ W, (W.cell? ⟨w.heap.size, 0, none⟩ = some (.string X) ∧ W.cell? ⟨w.heap.size, 1, none⟩ = some (.string Y) ∧ W.cell? ⟨w.heap.size + 1, 0, none⟩ = some (.string ⟨#[]⟩) ∧ W.cell? ⟨w.heap.size + 1, 1, none⟩ = some (.string ⟨#[]⟩) ∧ W.frozen? ⟨w.heap.size + 1, 0, none⟩ = false ∧ W.frozen? ⟨w.heap.size + 1, 1, none⟩ = false ∧ Below w0.heap.size w0 W) → (W.cell? ⟨w.heap.size, 0, none⟩ = some (.string X) ∧ W.cell? ⟨w.heap.size, 1, none⟩ = some (.string Y) ∧ Below (w.heap.size + 1) w0 W)) := Lib.hid fun W ⟨q0, q1, _, _, _, _, q9⟩ => ⟨q0, q1, q9.mono (by omega)⟩
  have hput : Hid (∀ W, (W.cell? ⟨w.heap.size, 0, none⟩ = some (.string X) ∧ W.cell? ⟨w.heap.size, 1, none⟩ = some (.string Y) ∧ Below (w.heap.size + 1) w0 W) → (((W.setCell ⟨w.heap.size + 1, 0, none⟩ (.string X)).setCell ⟨w.heap.size + 1, 1, none⟩ (.string Y)).cell? ⟨w.heap.size, 0, none⟩ = some (.string X) ∧ ((W.setCell ⟨w.heap.size + 1, 0, none⟩ (.string X)).setCell ⟨w.heap.size + 1, 1, none⟩ (.string Y)).cell? ⟨w.heap.size, 1, none⟩ = some (.string Y) ∧ Below (w.heap.size + 1) w0 ((W.setCell ⟨w.heap.size + 1, 0, none⟩ (.string X)).setCell ⟨w.heap.size + 1, 1, none⟩ (.string Y)))) := Lib.hid fun W ⟨q0, q1, q9⟩ => by
    have hb : Below (w.heap.size + 1) W ((W.setCell ⟨w.heap.size + 1, 0, none⟩ (.string X)).setCell ⟨w.heap.size + 1, 1, none⟩ (.string Y)) := ((Below.refl _ _).setCell (p := ⟨w.heap.size + 1, 0, none⟩) (Nat.le_refl _) _).setCell (p := ⟨w.heap.size + 1, 1, none⟩) (Nat.le_refl _) _
    exact ⟨(hb.cell (p := ⟨w.heap.size, 0, none⟩) (by simp)).trans q0, (hb.cell (p := ⟨w.heap.size, 1, none⟩) (by simp)).trans q1, q9.trans hb⟩
  have hw0k := Lib.hid (hwk.out _ hS0.out)
  have hw1k := Lib.hid (hwk.out _ hS1.out)
  clear a0 r0 hc b0
  go_enter Tryz.func21, Tryz.ntmps21
  go_wp2_with fail
  go_region_held3 (fun W => W.cell? ⟨w.heap.size, 0, none⟩ = some (.string X) ∧ W.cell? ⟨w.heap.size, 1, none⟩ = some (.string Y) ∧ Below (w.heap.size + 1) w0 W)
    (first | assumption | exact hw0k.out | exact hw1k.out | exact hput.out _ (by assumption) | (trace_state; fail))
    (first
      | (go_at_call 20; (with_reducible refine (HX.out _ ?_).mono ?_); (first | exact hS0.out | exact hS1.out | assumption); rintro e w1 ⟨rfl, hS11⟩; have k11 := hwk.out _ hS11; obtain ⟨x0, x1, x2, x3, x4, x5, x6⟩ := id hS11)
      | (go_at_call 20; (with_reducible refine (HY.out _ ?_).mono ?_); (first | assumption); rintro e w2 ⟨rfl, hS12⟩; have k12 := hwk.out _ hS12; obtain ⟨y0, y1, y2, y3, y4, y5, y6⟩ := id hS12))
  have e2 := (y6.block (w.heap.size + 1) (by omega)).trans B0.out.2
  have e3 := heap_setCell_same _ _ 0 _ _ (.string X) e2
  have e4 := heap_setCell_same _ _ 1 _ _ (.string Y) e3
  have k0 := Lib.cell_of_heap e4 0
  have k1 := Lib.cell_of_heap e4 1
  simp at k0 k1
  have B := Lib.hid (((B0.out.1.trans (y6.mono B0.out.1.size)).setCell (p := ⟨w.heap.size + 1, 0, none⟩) (by show w.heap.size ≤ w.heap.size + 1; omega) (.string X)).setCell (p := ⟨w.heap.size + 1, 1, none⟩) (by show w.heap.size ≤ w.heap.size + 1; omega) (.string Y))
  clear hS0 hS1 HX HY hwk hput hw0k hw1k hS B0 e2 e3 e4
  go_wp2
  refine bodyPost_ret (v := .agg #[.string X, .string Y]) (by simp [results, Tryz.f21, go_sem, k0, k1]) rfl ⟨rfl, B.out⟩
end Go.Proofs.YtjikghndoklajaaGreatDoor
