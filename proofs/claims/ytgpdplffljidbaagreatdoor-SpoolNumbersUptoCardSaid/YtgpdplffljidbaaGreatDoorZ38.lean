/-
  Texts of this proof, put together: SpR, SpS, S16E.
-/
import Derived.Test.YtgpdplffljidbaaGreatDoorZ37
import Derived.Test.YtgpdplffljidbaaGreatDoorZ11
import Derived.Laws.MakeOwn
import Derived.Laws.StructEq
namespace Go.Proofs.YtgpdplffljidbaaGreatDoor
open Go.RowKit

def ItemsAt (w : World) (B : Nat) (v : Value) (l : List ItemS) : Prop :=
  ∃ ao cap, v = .slice ao l.length cap ∧ l.length ≤ cap ∧ cap ≤ maxLen ∧ ∀ i (hi : i < l.length), ∃ g off, ao = some ⟨g, off, none⟩ ∧ g < B ∧ ∀ j, j < 7 → w.cell? ⟨g, off + i * 7 + j, none⟩ = (itemCells l[i])[j]?
theorem ItemsAt.below {w w' : World} {B B' : Nat} {v : Value} {l : List ItemS} (h : ItemsAt w B v l) (hb : Below B' w w') (hB : B ≤ B') : ItemsAt w' B v l := by
  obtain ⟨ao, cap, h1, h2, h3, h4⟩ := h
  refine ⟨ao, cap, h1, h2, h3, fun i hi => ?_⟩
  obtain ⟨g, off, q1, q2, q3⟩ := h4 i hi
  exact ⟨g, off, q1, q2, fun j hj => (hb.cell (p := ⟨g, off + i * 7 + j, none⟩) (by show g < B'; omega)).trans (q3 j hj)⟩
theorem ItemsAt.up {w : World} {B B' : Nat} {v : Value} {l : List ItemS} (h : ItemsAt w B v l) (hB : B ≤ B') : ItemsAt w B' v l := by
  obtain ⟨ao, cap, h1, h2, h3, h4⟩ := h
  refine ⟨ao, cap, h1, h2, h3, fun i hi => ?_⟩
  obtain ⟨g, off, q1, q2, q3⟩ := h4 i hi
  exact ⟨g, off, q1, by omega, q3⟩
theorem ItemsAt.nil (w : World) (B : Nat) : ItemsAt w B (.slice none 0 0) [] := ⟨none, 0, rfl, Nat.le_refl _, by simp, fun i hi => absurd hi (by simp)⟩
theorem ItemsOwn.at {w : World} {B : Nat} {v : Value} {l : List ItemS} (h : ItemsOwn w B v l) : ItemsAt w w.heap.size v l := by
  rcases h.2 with ⟨rfl, e⟩ | ⟨b, cap, cur, rfl, hb, hg, h1, h3, hz⟩
  · have hl : l = [] := List.eq_nil_of_length_eq_zero e
    subst hl
    exact ItemsAt.nil _ _
  · have hb2 : b < w.heap.size := (Array.getElem?_eq_some_iff.1 hg).1
    refine ⟨some ⟨b, 0, none⟩, cap, rfl, h1, h3, fun i hi => ⟨b, 0, rfl, hb2, fun j hj => ?_⟩⟩
    have hx := items_at l i hi j hj
    have hj2 : j < (itemCells l[i]).length := by simp [itemCells]; omega
    rw [List.getElem?_eq_getElem hj2] at hx ⊢
    have c1 := World.ownsRow.cells (g := b) h rfl (i * 7 + j) _ hx
    rw [Addr.add_lit, Nat.zero_add] at c1
    rw [Nat.zero_add]
    exact c1
theorem ItemsAt.slice {w : World} {B : Nat} {v : Value} {l : List ItemS} (h : ItemsAt w B v l) : ∃ ao cap, v = .slice ao l.length cap ∧ l.length ≤ cap ∧ cap ≤ maxLen := by
  obtain ⟨ao, cap, h1, h2, h3, _⟩ := h
  exact ⟨ao, cap, h1, h2, h3⟩

set_option maxRecDepth 100000 in
set_option maxHeartbeats 4000000 in
theorem sidx_any (g : Nat) (eg : ∀ args w, (callFunc g args).run Tryz.prog w = .ok (.enter g args) w) (f : ItemS → Bool) (B : Nat) (v : Value) (l : List ItemS) (w : World) (h : ItemsAt w B v l) (hB : B ≤ w.heap.size)
    (hcall : ∀ x W, Calls Tryz.prog g #[itemV x] W fun e w' => e = .returned (.bool (f x)) ∧ Below W.heap.size W w') :
    Calls Tryz.prog 56 #[v, .func (.func g) #[] #[]] w fun e w' => (∃ k : Int, e = .returned (.int .i64 k) ∧ decide (0 ≤ k) = l.any f) ∧ Below w.heap.size w w' := by
  obtain ⟨ao, cap, rfl, hc1, hc2, hat⟩ := h
  obtain ⟨n, hnl⟩ : ∃ n, l.length = n := ⟨_, rfl⟩
  have Hat := Lib.hid hat
  have Hcall := Lib.hid hcall
  have Hn := Lib.hid hnl
  unfold maxLen at hc2
  rw [hnl] at hc1 ⊢
  clear hat hcall hnl
  go_enter Tryz.func56, Tryz.ntmps56
  go_wp2
  go_loopw [8] (fun iv wr => ∃ i : Nat, i ≤ n ∧ iv = .int .i64 i ∧ Hid ((∀ x ∈ l.take i, f x = false) ∧ Below w.heap.size w wr)) (fun iv _ => n - (intOf iv).toNat)
  case atStart => exact ⟨0, by omega, rfl, Lib.hid ⟨fun x hx => (by rw [List.take_zero] at hx; cases hx), Below.refl _ _⟩⟩
  case round =>
    obtain ⟨i, hi, rfl, hbr⟩ := hrel
    by_cases hlt : i < n
    · have hil : i < l.length := by rw [Hn.out]; exact hlt
      obtain ⟨gb, off, rfl, hgB, hx⟩ := Hat.out i hil
      have hcl := Hcall.out l[i] wr
      have y : ∀ j, j < 7 → wr.cell? ⟨gb, off + i * 7 + j, none⟩ = (itemCells l[i])[j]? := fun j hj => (hbr.out.2.cell (p := ⟨gb, off + i * 7 + j, none⟩) (by show gb < w.heap.size; omega)).trans (hx j hj)
      have y0 : wr.cell? ⟨gb, off + i * 7, none⟩ = some (.int .i64 l[i].id) := y 0 (by omega)
      have y1 : wr.cell? ⟨gb, off + i * 7 + 1, none⟩ = some (.string (textQ l[i].fr)) := y 1 (by omega)
      have y2 : wr.cell? ⟨gb, off + i * 7 + 2, none⟩ = some (.string (textQ l[i].to)) := y 2 (by omega)
      have y3 : wr.cell? ⟨gb, off + i * 7 + 3, none⟩ = some (.string (textQ l[i].tx)) := y 3 (by omega)
      have y4 : wr.cell? ⟨gb, off + i * 7 + 4, none⟩ = some (.int .i64 l[i].b) := y 4 (by omega)
      have y5 : wr.cell? ⟨gb, off + i * 7 + 5, none⟩ = some (.int .i64 l[i].t) := y 5 (by omega)
      have y6 : wr.cell? ⟨gb, off + i * 7 + 6, none⟩ = some (.int .i64 l[i].d) := y 6 (by omega)
      unfold itemV at hcl
      have htk := List.take_succ_eq_append_getElem hil
      have hmm := List.getElem_mem hil
      obtain ⟨q, hq⟩ : ∃ q, l[i] = q := ⟨_, rfl⟩
      rw [hq] at hcl y0 y1 y2 y3 y4 y5 y6 htk hmm
      obtain ⟨F, hF⟩ : ∃ X, textQ q.fr = X := ⟨_, rfl⟩
      obtain ⟨O, hO⟩ : ∃ X, textQ q.to = X := ⟨_, rfl⟩
      obtain ⟨X, hX⟩ : ∃ X, textQ q.tx = X := ⟨_, rfl⟩
      rw [hF, hO, hX] at hcl
      rw [hF] at y1
      rw [hO] at y2
      rw [hX] at y3
      have hbz := hbr.out.2.size
      have HT := Lib.hid (And.intro htk hmm)
      clear hx y hF hO hX hq hil htk hmm
      by_cases hfx : f q = true
      · rw [hfx] at hcl
        go_wp2_with fail
        refine hcl.mono ?_
        rintro e w1 ⟨rfl, hw1⟩
        have hb1 := hbr.out.2.trans (hw1.mono hbz)
        have Fin := Lib.hid (And.intro hfx (And.intro HT.out.2 hb1))
        clear hw1 hcl hfx hb1
        go_wp2
        go_ret
        exact ⟨⟨(i : Int), rfl, by rw [decide_eq_true (by omega)]; exact (List.any_eq_true.2 ⟨q, Fin.out.2.1, Fin.out.1⟩).symm⟩, Fin.out.2.2⟩
      · rw [Bool.not_eq_true] at hfx
        rw [hfx] at hcl
        go_wp2_with fail
        refine hcl.mono ?_
        rintro e w1 ⟨rfl, hw1⟩
        have hb1 := hbr.out.2.trans (hw1.mono hbz)
        have K1 := Lib.hid (show (∀ x ∈ l.take (i + 1), f x = false) ∧ Below w.heap.size w w1 from ⟨fun x hx => by
          rw [HT.out.1] at hx
          rcases List.mem_append.1 hx with hx | hx
          · exact hbr.out.1 x hx
          · rw [List.mem_singleton.1 hx]
            exact hfx, hb1⟩)
        clear hw1 hcl hfx hb1
        go_wp2
        go_roundw
        case rel => exact ⟨i + 1, by omega, by go_num, K1⟩
        case measure => simp [intOf]; omega
    · obtain rfl : i = n := by omega
      have hfin := hbr.out
      rw [List.take_of_length_le (by rw [Hn.out]; exact Nat.le_refl _)] at hfin
      have Fin := Lib.hid hfin
      clear hbr hfin
      go_wp2
      go_ret
      exact ⟨⟨-1, rfl, by
        rw [decide_eq_false (by omega)]
        symm
        rw [List.any_eq_false]
        intro x hx
        rw [Fin.out.1 x hx]
        exact Bool.noConfusion⟩, Fin.out.2⟩
set_option maxRecDepth 100000 in
theorem scon_any (g : Nat) (eg : ∀ args w, (callFunc g args).run Tryz.prog w = .ok (.enter g args) w) (f : ItemS → Bool) (B : Nat) (v : Value) (l : List ItemS) (w : World) (h : ItemsAt w B v l) (hB : B ≤ w.heap.size)
    (hcall : ∀ x W, Calls Tryz.prog g #[itemV x] W fun e w' => e = .returned (.bool (f x)) ∧ Below W.heap.size W w') :
    Calls Tryz.prog 29 #[v, .func (.func g) #[] #[]] w fun e w' => e = .returned (.bool (l.any f)) ∧ Below w.heap.size w w' := by
  have hi := sidx_any g eg f B v l w h hB hcall
  obtain ⟨R, hR⟩ : ∃ R, l.any f = R := ⟨_, rfl⟩
  rw [hR] at hi ⊢
  clear h hcall hR
  go_enter Tryz.func29, Tryz.ntmps29
  go_wp2_with fail
  refine hi.mono ?_
  rintro e w1 ⟨⟨k, rfl, hk⟩, hw1⟩
  have Fin := Lib.hid (And.intro hk hw1)
  clear hk hw1 hi
  go_wp2
  go_ret
  refine ⟨?_, Fin.out.2⟩
  have hk := Fin.out.1
  first | (rw [hk]; done) | (rw [← hk]; done) | (rw [← hk]; rfl)
set_option maxRecDepth 100000 in
theorem sadd1_any (x : ItemS) (w : World) : Calls Tryz.prog 30 #[itemV x] w fun e w' => e = .returned (.bool (!rightS x)) ∧ Below w.heap.size w w' := by
  have hr := fun W => sright_any x W
  unfold itemV at hr ⊢
  obtain ⟨F, hF⟩ : ∃ X, textQ x.fr = X := ⟨_, rfl⟩
  obtain ⟨O, hO⟩ : ∃ X, textQ x.to = X := ⟨_, rfl⟩
  obtain ⟨X, hX⟩ : ∃ X, textQ x.tx = X := ⟨_, rfl⟩
  rw [hF, hO, hX] at hr ⊢
  obtain ⟨w1, hw1⟩ : ∃ w1, w.alloc (.cells #[.int .i64 x.id, .string F, .string O, .string X, .int .i64 x.b, .int .i64 x.t, .int .i64 x.d] 44) = w1 := ⟨_, rfl⟩
  have b1 : Below w.heap.size w w1 := by rw [← hw1]; exact (Below.refl _ _).alloc (Nat.le_refl _) _
  have i1 : ItAt w1 w.heap.size x.id F O X x.b x.t x.d := by rw [← hw1]; exact it_new w _ _ _ _ _ _ _
  obtain ⟨c0, c1, c2, c3, c4, c5, c6, _⟩ := i1.cells
  have h1 := hr w1
  clear hr hF hO hX i1
  go_enter Tryz.func30, Tryz.ntmps30
  go_wp2_with fail
  refine h1.mono ?_
  rintro e w2 ⟨rfl, hb⟩
  have Fin := Lib.hid (b1.trans (hb.mono b1.size))
  clear b1 hb h1
  go_wp2
  go_ret
  exact ⟨rfl, Fin.out⟩
theorem enter_add1 : ∀ args w, (callFunc 30 args).run Tryz.prog w = .ok (.enter 30 args) w := enters_of Tryz.func30 (by kernel_rfl) rfl
end Go.Proofs.YtgpdplffljidbaaGreatDoor
namespace Go.Proofs.YtgpdplffljidbaaGreatDoor
open Go.RowKit

theorem puts_at : ∀ (l : List ItemS) (top i : Nat) (h : i < l.length), ∃ h2, (putsS (nextS top l))[i]'h2 = ⟨keyS (top + i + 1), textS l[i], false⟩
  | x :: l, top, 0, _ => ⟨by unfold nextS putsS; simp, by
      show (⟨keyS (((top + 1 : Nat) : Int)).toNat, textS { x with id := ((top + 1 : Nat) : Int) }, false⟩ : Ch) = _
      rw [text_id, Int.toNat_natCast]
      rfl⟩
  | x :: l, top, i + 1, h => by
    obtain ⟨h2, e⟩ := puts_at l (top + 1) i (by simpa using h)
    refine ⟨by unfold nextS putsS; rw [List.length_map, List.length_cons, next_len]; simpa using h, ?_⟩
    show (putsS (nextS (top + 1) l))[i]'h2 = _
    rw [e, show top + 1 + i + 1 = top + (i + 1) + 1 by omega]
    rfl
theorem puts_step (l : List ItemS) (top i : Nat) (h : i < l.length) : (putsS (nextS top l)).take (i + 1) = (putsS (nextS top l)).take i ++ [⟨keyS (top + i + 1), textS l[i], false⟩] := by
  obtain ⟨h2, e⟩ := puts_at l top i h
  rw [List.take_succ_eq_append_getElem h2, e]
theorem puts_len (l : List ItemS) (top : Nat) : (putsS (nextS top l)).length = l.length := by
  unfold putsS
  rw [List.length_map, next_len]

set_option maxRecDepth 100000 in
set_option maxHeartbeats 2000000 in
theorem sadd_bad (w : World) (p : Value) (B : Nat) (v : Value) (l : List ItemS) (h : ItemsAt w B v l) (hB : B ≤ w.heap.size) (hr : ∃ x ∈ l, rightS x = false) :
    Calls Tryz.prog 12 #[p, v] w fun e w' => e = .returned (.tuple #[.slice none 0 0, .int .i64 1]) ∧ Below w.heap.size w w' := by
  have hcon := scon_any 30 enter_add1 (fun x => !rightS x) B v l w h hB (fun x W => sadd1_any x W)
  rw [show l.any (fun x => !rightS x) = true from List.any_eq_true.2 (by
    obtain ⟨x, hx, e⟩ := hr
    exact ⟨x, hx, by rw [e]; rfl⟩)] at hcon
  obtain ⟨ao, cap, rfl, _, _⟩ := h.slice
  clear h hr
  go_enter Tryz.func12, Tryz.ntmps12
  go_wp2_with fail
  refine hcon.mono ?_
  rintro e w1 ⟨rfl, hb⟩
  go_wp2
  go_ret2
  exact ⟨rfl, hb⟩

set_option maxRecDepth 100000 in
set_option maxHeartbeats 4000000 in
theorem sadd_any (w : World) (N : Nat) (ps : List PairP) (l0 : List ItemS) (last : Nat) (hG : GetC w (.pointer (some ⟨N, 0, none⟩)) ps) (hq : QueueP ps l0 last) (ht : PowIs w) (B : Nat) (v : Value) (l : List ItemS) (h : ItemsAt w B v l) (hB : B ≤ w.heap.size) (hr : ∀ x ∈ l, rightS x = true) (hm : last + l.length ≤ 99999999) :
    Calls Tryz.prog 12 #[.pointer (some ⟨N, 0, none⟩), v] w fun e w' => ∃ u, e = .returned (.tuple #[u, .int .i64 0]) ∧ OwnC9 w.heap.size w' u (addS last l) ∧ Below w.heap.size w w' := by
  have hcon := scon_any 30 enter_add1 (fun x => !rightS x) B v l w h hB (fun x W => sadd1_any x W)
  rw [show l.any (fun x => !rightS x) = false from List.any_eq_false.2 (fun x hx => by rw [hr x hx]; exact Bool.noConfusion)] at hcon
  have hls := fun W (hW : Below w.heap.size w W) => slast_any W N ps l0 last (fun V hV => hG V (hW.trans (hV.mono hW.size))) hq
  obtain ⟨ao, cap, rfl, hc1, hc2, hat⟩ := h
  obtain ⟨n, hn⟩ : ∃ n, l.length = n := ⟨_, rfl⟩
  have hput := fun W (hW : Below w.heap.size w W) i (hi : i < l.length) => sput_any { l[i] with id := ((last + i + 1 : Nat) : Int) } (last + i + 1) W rfl (by omega) (hr l[i] (List.getElem_mem hi)) (pow_below ht hW)
  have hito := fun W (hW : Below w.heap.size w W) => Tryz.strconv_Itoa ((last + n : Nat) : Int) (by omega) (by omega) W (pow_below ht hW)
  have Hat := Lib.hid hat
  have Hn := Lib.hid hn
  have Hput := Lib.hid hput
  have Hito := Lib.hid hito
  have Hls := Lib.hid hls
  unfold maxLen at hc2
  rw [hn] at hc1 hm hcon ⊢
  clear hat hput hito hls hG hq ht hr
  go_enter Tryz.func12, Tryz.ntmps12
  go_wp2_with fail
  refine hcon.mono ?_
  rintro e w1 ⟨rfl, hb1⟩
  have hl1 := Hls.out w1 hb1
  have B1 := Lib.hid hb1
  clear hcon hb1 Hls hn
  go_wp2_with fail
  refine hl1.mono ?_
  rintro e w2 ⟨rfl, hb2⟩
  have B2 := Lib.hid (B1.out.trans (hb2.mono B1.out.size))
  clear hl1 hb2 B1
  by_cases h0 : n = 0
  · subst h0
    have hl0 : l = [] := List.eq_nil_of_length_eq_zero Hn.out
    have Fin : Hid (OwnC9 w.heap.size w2 (.slice none 0 0) (addS last l) ∧ Below w.heap.size w w2) := Lib.hid ⟨by rw [hl0]; exact World.ownsRow_nil _ _ _ _, B2.out⟩
    clear hl0
    go_wp2
    go_ret2
    exact ⟨_, rfl, Fin.out.1, Fin.out.2⟩
  · obtain ⟨z, hz⟩ : ∃ z, n + 1 = z := ⟨_, rfl⟩
    obtain ⟨i0, hi0, hz00, hz10, hz20⟩ := info_parts infoWCh
    obtain ⟨w3, hmk, hown3, hgrow3⟩ := run_make_own (P := Tryz.prog) w2 w.heap.size 35 50 i0 (.agg #[.string ⟨#[]⟩, .string ⟨#[]⟩, .bool false]) 3 Tryz.underlying35 hi0 hz00 hz10 .i64 .i64 z (by rw [hz20]; omega) (by unfold maxLen; omega) B2.out.size
    rw [show ((z : Nat) : Int) = (n : Int) + 1 by omega] at hmk
    have hb3 : Below w.heap.size w w3 := B2.out.grown hgrow3 B2.out.size fun k hk => by cases hk
    have K3 : Hid (OwnC9 w.heap.size w3 (.slice (some ⟨w2.heap.size, 0, none⟩) 0 z) ((putsS (nextS last l)).take 0) ∧ Below w.heap.size w w3) := Lib.hid ⟨hown3, hb3⟩
    obtain ⟨V3, hV3⟩ : ∃ V : Value, Value.slice (some ⟨w2.heap.size, 0, none⟩) 0 z = V := ⟨_, rfl⟩
    rw [hV3] at hmk K3
    clear hown3 hgrow3 hb3 hi0 hz00 hz10 hz20 hV3
    go_wp2
    have H0 := Lib.hid h0
    clear h0
    go_loopw [6, 7, 28] (fun kv u iv wr => ∃ i k : Nat, i ≤ n ∧ iv = .int .i64 i ∧ kv = .int .i64 (k : Int) ∧ Hid (k = last + i) ∧ Hid (OwnC9 w.heap.size wr u ((putsS (nextS last l)).take i) ∧ Below w.heap.size w wr)) (fun _ _ iv _ => n - (intOf iv).toNat)
    case atStart => exact ⟨0, last, by omega, rfl, rfl, Lib.hid rfl, K3⟩
    case round =>
      clear K3 hmk
      obtain ⟨i, k, hi, rfl, rfl, hk, hK⟩ := hrel
      by_cases hlt : i < n
      · have hil : i < l.length := by rw [Hn.out]; exact hlt
        have hkb : k ≤ 99999998 := by have := hk.out; omega
        obtain ⟨gb, off, rfl, hgB, hx⟩ := Hat.out i hil
        have hpu := fun W hW => Hput.out W hW i hil
        have hst := puts_step l last i hil
        have y : ∀ j, j < 7 → wr.cell? ⟨gb, off + i * 7 + j, none⟩ = (itemCells l[i])[j]? := fun j hj => (hK.out.2.cell (p := ⟨gb, off + i * 7 + j, none⟩) (by show gb < w.heap.size; omega)).trans (hx j hj)
        obtain ⟨q, hq⟩ : ∃ q, l[i] = q := ⟨_, rfl⟩
        rw [hq] at y hst
        have hpu2 : ∀ W, Below w.heap.size w W → Calls Tryz.prog 32 #[itemW ((k : Int) + 1) (textQ q.fr) (textQ q.to) (textQ q.tx) q.b q.t q.d] W fun e w' => e = .returned (chV (keyS (last + i + 1)) (textS q) false) ∧ Below W.heap.size W w' := fun W hW => by
          have h1 := hpu W hW
          rw [hq] at h1
          rw [show ((k : Int) + 1) = ((last + i + 1 : Nat) : Int) by rw [hk.out]; rfl]
          exact h1
        have y0 : wr.cell? ⟨gb, off + i * 7, none⟩ = some (.int .i64 q.id) := y 0 (by omega)
        have y1 : wr.cell? ⟨gb, off + i * 7 + 1, none⟩ = some (.string (textQ q.fr)) := y 1 (by omega)
        have y2 : wr.cell? ⟨gb, off + i * 7 + 2, none⟩ = some (.string (textQ q.to)) := y 2 (by omega)
        have y3 : wr.cell? ⟨gb, off + i * 7 + 3, none⟩ = some (.string (textQ q.tx)) := y 3 (by omega)
        have y4 : wr.cell? ⟨gb, off + i * 7 + 4, none⟩ = some (.int .i64 q.b) := y 4 (by omega)
        have y5 : wr.cell? ⟨gb, off + i * 7 + 5, none⟩ = some (.int .i64 q.t) := y 5 (by omega)
        have y6 : wr.cell? ⟨gb, off + i * 7 + 6, none⟩ = some (.int .i64 q.d) := y 6 (by omega)
        unfold chV at hpu2
        obtain ⟨F, hF⟩ : ∃ X, textQ q.fr = X := ⟨_, rfl⟩
        obtain ⟨O, hO⟩ : ∃ X, textQ q.to = X := ⟨_, rfl⟩
        obtain ⟨X, hX⟩ : ∃ X, textQ q.tx = X := ⟨_, rfl⟩
        obtain ⟨KT, hKT⟩ : ∃ X, textQ (keyS (last + i + 1)) = X := ⟨_, rfl⟩
        obtain ⟨VT, hVT⟩ : ∃ X, textQ (textS q) = X := ⟨_, rfl⟩
        rw [hF, hO, hX, hKT, hVT] at hpu2
        rw [hF] at y1
        rw [hO] at y2
        rw [hX] at y3
        obtain ⟨W1, hW1⟩ : ∃ W1, wr.alloc (.cells #[.int .i64 q.id, .string F, .string O, .string X, .int .i64 q.b, .int .i64 q.t, .int .i64 q.d] 44) = W1 := ⟨_, rfl⟩
        have b1 : Below wr.heap.size wr W1 := by rw [← hW1]; exact (Below.refl _ _).alloc (Nat.le_refl _) _
        have i1 : ItAt W1 wr.heap.size q.id F O X q.b q.t q.d := by rw [← hW1]; exact it_new wr _ _ _ _ _ _ _
        obtain ⟨V, hV⟩ : ∃ V, W1.setCell ⟨wr.heap.size, 0, none⟩ (.int .i64 ((k : Int) + 1)) = V := ⟨_, rfl⟩
        have bV : Below wr.heap.size wr V := by rw [← hV]; exact b1.setCell (p := ⟨wr.heap.size, 0, none⟩) (Nat.le_refl _) _
        have iV : ItAt V wr.heap.size ((k : Int) + 1) F O X q.b q.t q.d := by rw [← hV]; exact heap_setCell_same W1 wr.heap.size 0 _ _ _ i1
        have p2 := hpu2 V (hK.out.2.trans (bV.mono hK.out.2.size))
        obtain ⟨a0, a1, a2, a3, a4, a5, a6, f0, _⟩ := i1.cells
        obtain ⟨v0, v1, v2, v3, v4, v5, v6, _⟩ := iV.cells
        have HX := Lib.hid (And.intro hKT (And.intro hVT (And.intro hst (And.intro hK.out.1 (hK.out.2.trans (bV.mono hK.out.2.size))))))
        have HVb := Lib.hid bV
        clear hx y hq hF hO hX hKT hVT hst hpu hpu2 b1 i1 bV iV hil
        go_wp2_with fail
        refine p2.mono ?_
        rintro e w4 ⟨rfl, hb4⟩
        obtain ⟨W5, hW5⟩ : ∃ W5, w4.alloc (.cells #[.string KT, .string VT, .bool false] 50) = W5 := ⟨_, rfl⟩
        have b5 : Below w4.heap.size w4 W5 := by rw [← hW5]; exact (Below.refl _ _).alloc (Nat.le_refl _) _
        have h5 : W5.heap[w4.heap.size]? = some (.cells #[.string KT, .string VT, .bool false] 50 (0, 0)) := by rw [← hW5]; exact heap_alloc_new w4 _
        obtain ⟨hKT, hVT, hst, hown, hbw⟩ := HX.out
        have bR5 : Below wr.heap.size wr W5 := HVb.out.trans ((hb4.trans (b5.mono hb4.size)).mono HVb.out.size)
        have K5 := Lib.hid (show OwnC9 w.heap.size W5 u7 ((putsS (nextS last l)).take i) ∧ Below w.heap.size w W5 from ⟨(Turned.of_below (S := fun _ => False) bR5 (Nat.le_refl _)).row hown (fun _ _ h => h), hK.out.2.trans (bR5.mono hK.out.2.size)⟩)
        have n1 : W5.cell? ⟨w4.heap.size, 0, none⟩ = some (.string (textQ (keyS (last + i + 1)))) := by rw [hKT]; exact Lib.cell_of_heap h5 0
        have n2 : W5.cell? ⟨w4.heap.size, 1, none⟩ = some (.string (textQ (textS q))) := by rw [hVT]; exact Lib.cell_of_heap h5 1
        have n3 : W5.cell? ⟨w4.heap.size, 2, none⟩ = some (.bool false) := Lib.cell_of_heap h5 2
        have N5 := Lib.hid (And.intro n1 (And.intro n2 n3))
        have hll : ((putsS (nextS last l)).take i).length ≤ 100000000 := by rw [List.length_take, puts_len]; omega
        clear p2 hb4 b5 h5 hKT hVT hst hown hbw bR5 n1 n2 n3 v0 v1 v2 v3 v4 v5 v6 a0 a1 a2 a3 a4 a5 a6 f0 y0 y1 y2 y3 y4 y5 y6 hK hV hW1
        go_wp2_with (at_builtin; refine wpList_append_c rfl _ _ rfl w.heap.size u7 ((putsS (nextS last l)).take i) ⟨keyS (last + i + 1), textS q, false⟩ rfl K5.out.1 K5.out.2.size hll w4.heap.size 1 rfl N5.out.1 N5.out.2.1 N5.out.2.2 ?_)
        intro v' w6 ho t6 _
        have hown6 := ho
        rw [← HX.out.2.2.1] at hown6
        have K6 := Lib.hid (show OwnC9 w.heap.size w6 v' ((putsS (nextS last l)).take (i + 1)) ∧ Below w.heap.size w w6 from ⟨hown6, K5.out.2.trans (t6.below K5.out.2.size fun b hb => (K5.out.1.lt b hb).1)⟩)
        have hk2 : Hid (k + 1 = last + (i + 1)) := Lib.hid (by have := hk.out; omega)
        clear ho t6 hown6 K5 N5 hW5 HX HVb hll
        go_wp2
        go_roundw
        case rel =>
          rw [show ((n : Int) == 0) = false by rw [beq_eq_false_iff_ne]; omega]
          exact ⟨_, _, _, _, _, _, _, _, _, _, _, _, _, _, _, _, _, ⟨i + 1, k + 1, by omega, by go_num, by go_num, hk2, K6⟩, rfl⟩
        case measure => simp [intOf]; omega
      · obtain rfl : i = n := by omega
        have hfin := hK.out
        rw [List.take_of_length_le (by rw [puts_len, Hn.out]; exact Nat.le_refl _)] at hfin
        have hkv : k = last + i := hk.out
        have hit := Hito.out wr hfin.2
        rw [show ((last + i : Nat) : Int) = (k : Int) by rw [hkv]] at hit
        have hTe : Lib.itoa (k : Int) = Lib.decDigits (last + i) := by
          unfold Lib.itoa
          rw [if_neg (by omega), Int.toNat_natCast, hkv]
        obtain ⟨T, hT⟩ : ∃ T : ByteArray, (⟨(Lib.itoa (k : Int)).toArray⟩ : ByteArray) = T := ⟨_, rfl⟩
        rw [hT] at hit
        have hTT : textQ (Lib.decDigits (last + i)) = T := by rw [← hT, hTe]; rfl
        have HT := Lib.hid hTT
        have HF := Lib.hid hfin
        have hadd : Hid (addS last l = putsS (nextS last l) ++ [⟨[113], Lib.decDigits (last + i), false⟩]) := Lib.hid (by
          unfold addS
          rw [if_neg (fun e => H0.out (by rw [← Hn.out, e]; rfl)), Hn.out])
        clear hfin hkv hTe hT hTT hK hk
        go_wp2_with fail
        refine hit.mono ?_
        rintro e w4 ⟨rfl, q, os, hw4⟩
        have hb4 : Below wr.heap.size wr w4 := by rw [hw4]; exact Lib.below_grow wr.heap.size wr (Nat.le_refl _) q os
        obtain ⟨W5, hW5⟩ : ∃ W5, w4.alloc (.cells #[.string ⟨#[113]⟩, .string T, .bool false] 50) = W5 := ⟨_, rfl⟩
        have b5 : Below w4.heap.size w4 W5 := by rw [← hW5]; exact (Below.refl _ _).alloc (Nat.le_refl _) _
        have h5 : W5.heap[w4.heap.size]? = some (.cells #[.string ⟨#[113]⟩, .string T, .bool false] 50 (0, 0)) := by rw [← hW5]; exact heap_alloc_new w4 _
        have bR5 : Below wr.heap.size wr W5 := hb4.trans (b5.mono hb4.size)
        have K5 := Lib.hid (show OwnC9 w.heap.size W5 u7 (putsS (nextS last l)) ∧ Below w.heap.size w W5 from ⟨(Turned.of_below (S := fun _ => False) bR5 (Nat.le_refl _)).row HF.out.1 (fun _ _ h => h), HF.out.2.trans (bR5.mono HF.out.2.size)⟩)
        have n1 : W5.cell? ⟨w4.heap.size, 0, none⟩ = some (.string (textQ [113])) := Lib.cell_of_heap h5 0
        have n2 : W5.cell? ⟨w4.heap.size, 1, none⟩ = some (.string (textQ (Lib.decDigits (last + i)))) := by rw [HT.out]; exact Lib.cell_of_heap h5 1
        have n3 : W5.cell? ⟨w4.heap.size, 2, none⟩ = some (.bool false) := Lib.cell_of_heap h5 2
        have N5 := Lib.hid (And.intro n1 (And.intro n2 n3))
        have hll : (putsS (nextS last l)).length ≤ 100000000 := by rw [puts_len, Hn.out]; omega
        clear hit hw4 hb4 b5 h5 bR5 n1 n2 n3 HF
        go_wp2_with (at_builtin; refine wpList_append_c rfl _ _ rfl w.heap.size u7 (putsS (nextS last l)) ⟨[113], Lib.decDigits (last + i), false⟩ rfl K5.out.1 K5.out.2.size hll w4.heap.size 1 rfl N5.out.1 N5.out.2.1 N5.out.2.2 ?_)
        intro v' w6 ho t6 _
        have Fin := Lib.hid (show OwnC9 w.heap.size w6 v' (addS last l) ∧ Below w.heap.size w w6 from ⟨by rw [hadd.out]; exact ho, K5.out.2.trans (t6.below K5.out.2.size fun b hb => (K5.out.1.lt b hb).1)⟩)
        clear ho t6 K5 N5 hW5 hll
        go_wp2
        go_ret2
        exact ⟨_, rfl, Fin.out.1, Fin.out.2⟩
end Go.Proofs.YtgpdplffljidbaaGreatDoor
namespace Go.Proofs.YtgpdplffljidbaaGreatDoor
open Go.RowKit

theorem item_ext (x y : ItemS) : decide (x = y) = (x.id == y.id && (x.fr == y.fr && (x.to == y.to && (x.tx == y.tx && (x.b == y.b && (x.t == y.t && x.d == y.d)))))) := by
  obtain ⟨a0, a1, a2, a3, a4, a5, a6⟩ := x
  obtain ⟨b0, b1, b2, b3, b4, b5, b6⟩ := y
  simp only [ItemS.mk.injEq]
  rw [Bool.eq_iff_iff]
  simp only [decide_eq_true_eq, Bool.and_eq_true, beq_iff_eq]
theorem run_item_eql (x y : ItemS) (w : World) : (binOp .eql 44 (itemV x) (itemV y)).run Tryz.prog w = .ok (.bool (decide (x = y))) w := by
  have hS : Tryz.prog.underlying 44 = some (.struct (Tryz.prog.fieldsOf 44)) := by kernel_rfl
  have hp : Tryz.prog.stoodInHeld 44 = false := by kernel_rfl
  have hS2 : Tryz.prog.underlying 42 = some (.struct (Tryz.prog.fieldsOf 42)) := by kernel_rfl
  have hp2 : Tryz.prog.stoodInHeld 42 = false := by kernel_rfl
  have u1 := Tryz.underlying3
  have a1 := Tryz.isAgg3
  have z1 := Tryz.sizeOf3
  have u3 := Tryz.underlying9
  have a3 := Tryz.isAgg9
  have z3 := Tryz.sizeOf9
  have a4 := Tryz.isAgg42
  have z4 := Tryz.sizeOf42
  have hT : ∀ (b t d b' t' d' : Int) (w : World), (Op.equalIn 9999 42 (.agg #[.int .i64 b, .int .i64 t, .int .i64 d]) (.agg #[.int .i64 b', .int .i64 t', .int .i64 d'])).run Tryz.prog w = .ok (b == b' && (t == t' && d == d')) w := fun b t d b' t' d' w => by
    rw [show (9999 : Nat) = 9998 + 1 from rfl, run_equalIn_agg w 9998 42 _ _ hS2 hp2]
    simp only [Program.fieldsOf, Tryz.underlying42]
    go_simp
    by_cases h1 : b = b' <;> by_cases h2 : t = t' <;> by_cases h3 : d = d' <;> simp [h1, h2, h3]
  unfold itemV itemW
  rw [run_eql_struct, show (10000 : Nat) = 9999 + 1 from rfl, run_equalIn_agg w 9999 44 _ _ hS hp, item_ext]
  simp only [Program.fieldsOf, Tryz.underlying44]
  go_simp
  have ht : ∀ a b : List UInt8, ((textQ a).toList = (textQ b).toList) = (a = b) := fun a b => by rw [Lib.toList_data, Lib.toList_data]; rfl
  simp only [ht]
  by_cases h0 : x.id = y.id <;> by_cases h1 : x.fr = y.fr <;> by_cases h2 : x.to = y.to <;> by_cases h3 : x.tx = y.tx <;> simp [h0, h1, h2, h3]
  by_cases h4 : x.b = y.b <;> by_cases h5 : x.t = y.t <;> by_cases h6 : x.d = y.d <;> simp [h4, h5, h6]
theorem run_item_neq (x y : ItemS) (w : World) : (binOp .neq 44 (itemV x) (itemV y)).run Tryz.prog w = .ok (.bool (!decide (x = y))) w := by
  have h := run_item_eql x y w
  unfold itemV itemW at h ⊢
  rw [run_eql_struct] at h
  rw [run_neq_struct]
  revert h
  generalize (Op.equalIn 10000 44 _ _).run Tryz.prog w = r
  intro h
  cases r with
  | ok b w1 =>
    simp only [Result.andThen_ok, Result.ok.injEq, Value.bool.injEq] at h ⊢
    exact ⟨by rw [h.1], h.2⟩
  | halt x w1 => simp [Result.andThen] at h
theorem run_item_guard (o : BinOp) (p q : Operand) (x y : ItemS) (w : World) : (eqGuard o 44 p q (itemV x) (itemV y)).run Tryz.prog w = .ok () w :=
  run_eqGuard_agg w o 44 p q _ _ (by kernel_rfl)
theorem items_one (x : ItemS) (w : World) : ItemsAt (w.alloc (.cells (itemCells x).toArray 44)) (w.heap.size + 1) (.slice (some ⟨w.heap.size, 0, none⟩) 1 1) [x] := by
  refine ⟨some ⟨w.heap.size, 0, none⟩, 1, rfl, Nat.le_refl _, by unfold maxLen; omega, fun i hi => ?_⟩
  have h0 : i = 0 := by simp at hi; omega
  subst h0
  have hh : (w.alloc (.cells (itemCells x).toArray 44)).heap[w.heap.size]? = some (.cells (itemCells x).toArray 44 (0, 0)) := heap_alloc_new w _
  refine ⟨w.heap.size, 0, rfl, by omega, fun j _ => ?_⟩
  rw [show 0 + 0 * 7 + j = j by omega]
  exact (Lib.cell_of_heap hh j).trans (by simp)
end Go.Proofs.YtgpdplffljidbaaGreatDoor
