/-
  The document's disk: what fill comes to.
-/
import Derived.Test.YtjmphdpeaahmfaaSecB
import Derived.ArgAppend
import Derived.Laws.IdiomStrings
import Derived.LoopIn
import Derived.Deep.LoopGhost
namespace Go.Proofs.Ytjmphdpeaahmfaa
open Go.RowKit

/-- A row of bytes of the call's own, whatever is marked behind its end. -/
def ByteRow (w : World) (B : Nat) (v : Value) (l : List UInt8) : Prop :=
  ∃ g cap cur fz, v = .slice (some ⟨g, 0, none⟩) l.length cap ∧ B ≤ g ∧ w.heap[g]? = some (.cells cur 5 fz) ∧ (fz = (0, 0) ∨ cur.size ≤ fz.1) ∧ cur.size = cap ∧ l.length ≤ cap ∧ cap ≤ maxLen ∧ cur.toList.take l.length = Lib.byteCells l
theorem byterow_cell {w : World} {g j : Nat} {cur : Array Value} {t : TypeId} {fz : Nat × Nat} (h : w.heap[g]? = some (.cells cur t fz)) : w.cell? ⟨g, j, none⟩ = cur[j]? := by simp [World.cell?, h]
theorem byterow_free {w : World} {g j : Nat} {cur : Array Value} {t : TypeId} {fz : Nat × Nat} (h : w.heap[g]? = some (.cells cur t fz)) (hz : fz = (0, 0) ∨ cur.size ≤ fz.1) (hj : j < cur.size) : w.frozen? ⟨g, j, none⟩ = false := by
  simp only [World.frozen?, h]
  rcases hz with rfl | hz
  · simp
  · simp
    omega
theorem byterow_of_own {w : World} {B n : Nat} {v : Value} {l : List UInt8} (hn : 0 < l.length) (hl : l.length = n) (h : w.ownsRow B 5 1 v n (Lib.byteCells l)) : ByteRow w B v l := by
  subst hl
  rcases h.2 with ⟨_, e⟩ | ⟨g, cap, cur, rfl, hb, hg, hnc, hcm, hcs, ht⟩
  · omega
  · exact ⟨g, cap, cur, (0, 0), rfl, hb, hg, .inl rfl, by omega, hnc, hcm, by rw [Nat.mul_one] at ht; exact ht⟩
theorem ByteRow.below {w w' : World} {B : Nat} {v : Value} {l : List UInt8} (h : ByteRow w B v l) (hb : Below w.heap.size w w') : ByteRow w' B v l := by
  obtain ⟨g, cap, cur, fz, h1, h2, h3, h4⟩ := h
  exact ⟨g, cap, cur, fz, h1, h2, (hb.block g (Array.getElem?_eq_some_iff.1 h3).1).trans h3, h4⟩
theorem ByteRow.conv {w : World} {B : Nat} {v : Value} {l : List UInt8} (h : ByteRow w B v l) : (convert 54 9 v).run Try.prog w = .ok (.string (textD l)) w := by
  obtain ⟨g, cap, cur, fz, rfl, _, h3, _, _, _, _, h8⟩ := h
  have := run_convert_bytes_arg (P := Try.prog) w 54 5 Try.underlying54 Try.underlying5 g 0 l.length cap (l.map fun b => (b.toNat : Int)) (by rw [List.length_map]) (fun i hi => by
      rw [byterow_cell h3, Nat.zero_add]
      have e : cur[i]? = (cur.toList.take l.length)[i]? := by rw [List.getElem?_take, if_pos hi, Array.getElem?_toList]
      rw [e, h8]
      unfold Lib.byteCells
      simp [List.getD, List.getElem?_map, List.getElem?_eq_getElem hi]) 9 Try.underlying9
  rw [this]
  congr 2
  unfold strOfNums textD
  congr 1
  simp [List.map_map, Function.comp_def]
/-- The bytes of a text, as a row. -/
theorem bytes_of_text (w : World) (x : ByteArray) (hx : x.size ≤ 1000000) : ∃ v w', (convert 9 54 (.string x)).run Try.prog w = .ok v w' ∧ ByteRow w' w.heap.size v x.data.toList ∧ Below w.heap.size w w' := by
  have hr := run_bytes_of_string (P := Try.prog) w 9 54 5 x Try.underlying9 Try.underlying54 Try.underlying5
  have hge := grownCap_ge w x.size 0 5
  have hmx : grownCap w x.size 0 5 ≤ maxLen := grownCap_le_maxLen w x.size 0 5 (by unfold maxLen; omega)
  have hxs : x.data.size = x.size := rfl
  have hsz : (bytesRow x (grownCap w x.size 0 5)).size = grownCap w x.size 0 5 := by
    unfold bytesRow
    rw [Array.size_append, Array.size_map, Array.size_replicate, hxs]
    omega
  refine ⟨_, _, hr, ⟨w.heap.size, grownCap w x.size 0 5, bytesRow x (grownCap w x.size 0 5), ((bytesRow x (grownCap w x.size 0 5)).size, (bytesRow x (grownCap w x.size 0 5)).size + 1), rfl, Nat.le_refl _, heap_alloc_new w.drew _, .inr (Nat.le_refl _), hsz, hge, hmx, ?_⟩, ?_⟩
  · unfold bytesRow Lib.byteCells
    rw [Array.toList_append, Array.toList_map]
    rw [List.take_left' (by rw [List.length_map])]
  · exact (below_drewN (Below.refl _ w) 1).alloc (Nat.le_refl _) _
/-- A byte 0 is appended. -/
theorem wpList_append_byte {w : World} {ops : Array Oper} {rest : List Oper} {o : Oper} {a : Act} {Q : Exit → Act → World → Prop} (hgd : o.guard = none) (s x : Operand)
    (ho : o.op = .call { callee := .builtin .append, args := #[s, x], argTypes := #[54, 54] }) (B : Nat) (v : Value) (l : List UInt8) (hs : a.eval s = v) (hrow : ByteRow w B v l) (hB : B ≤ w.heap.size) (hl : l.length ≤ 1000000)
    (ad : Addr) (c : Nat) (hx : a.eval x = .slice (some ad) 1 c) (hc : w.cell? ad = some (.int .u8 0))
    (h : ∀ v' w', Hid (ByteRow w' B v' (l ++ [0])) → Below B w w' → (∃ ao n cap, v' = .slice ao n cap) → wpList Try.prog ops Q rest (a.put o.dst v') w') : wpList Try.prog ops Q (o :: rest) a w := by
  obtain ⟨i0, hi, hz0, hz1, hz2⟩ := info_parts infoB4
  obtain ⟨g, cap, cur, fz, rfl, hg, hh, hfz, hcs, hlc, hcm, ht⟩ := hrow
  have hold : ∀ j u, (Lib.byteCells l)[j]? = some u → w.cell? ⟨g, 0 + j, none⟩ = some u := fun j u hj => by
    rw [byterow_cell hh, Nat.zero_add, ← hj, ← ht, List.getElem?_take, if_pos (by have := (List.getElem?_eq_some_iff.1 hj).1; rw [Lib.byteCells_length] at this; exact this), Array.getElem?_toList]
  refine wpList_append_arg w hgd s x 54 ho 5 i0 (.int .u8 0) 1 1 Try.underlying54 hi hz0 hz1 hz2 rfl (by decide) g 0 l.length cap (Lib.byteCells l) hs (by rw [Lib.byteCells_length, Nat.mul_one]) hold
    ad 1 c [.int .u8 0] hx rfl (fun j u hj => ?_) (fun u hu => ?_) (fun hroom j hj => ?_) (by unfold maxLen; omega) (by omega) (fun hroom => ?_) (fun hgrow v' w' hown hgr => ?_)
  · match j, hj with
    | 0, hj =>
      simp at hj
      subst hj
      rw [show ad.add 0 = ad by simp [Addr.add]]
      exact hc
    | j + 1, hj => simp at hj
  · simp at hu
    subst hu
    rfl
  · have hj0 : j = 0 := by simpa using hj
    subst hj0
    rw [Nat.zero_add, Nat.mul_one, Nat.add_zero]
    refine ⟨?_, byterow_free hh hfz (by omega)⟩
    rw [byterow_cell hh, Array.getElem?_eq_getElem (show l.length < cur.size by omega)]
    rfl
  · rw [Nat.zero_add, Nat.mul_one]
    have hset : w.setCells g l.length [.int .u8 0] = w.setCell ⟨g, l.length, none⟩ (.int .u8 0) := rfl
    rw [hset]
    refine h _ _ (Lib.hid ⟨g, cap, cur.setIfInBounds l.length (.int .u8 0), fz, ?_, hg, ?_, ?_, ?_, ?_, hcm, ?_⟩) ((Below.refl _ w).setCell (p := ⟨g, l.length, none⟩) hg _) ⟨_, _, _, rfl⟩
    · rw [List.length_append]
      rfl
    · have hlt : g < w.heap.size := (Array.getElem?_eq_some_iff.1 hh).1
      simp only [World.setCell, Array.getElem?_modify, if_pos]
      rw [hh]
      rfl
    · rw [Array.size_setIfInBounds]
      exact hfz
    · rw [Array.size_setIfInBounds]
      exact hcs
    · rw [List.length_append]
      exact hroom
    · rw [Array.toList_setIfInBounds, List.length_append, List.length_singleton, Lib.byteCells_append, ← ht, List.take_add_one, List.take_set_of_le (Nat.le_refl _), List.getElem?_set_self (show l.length < cur.toList.length by have : cur.toList.length = cur.size := rfl; omega)]
      rfl
  · have hown2 : ByteRow w' w.heap.size v' (l ++ [0]) := by
      refine byterow_of_own (n := l.length + 1) (by simp) (by simp) ?_
      rw [Lib.byteCells_append]
      exact hown
    have hb : Below w.heap.size w w' := ⟨hgr.os, hgr.tape, hgr.output, hgr.size, fun k hk => hgr.block k hk (by simp)⟩
    obtain ⟨g2, cap2, cur2, fz2, r1, r2, r3⟩ := hown2
    exact h _ _ (Lib.hid ⟨g2, cap2, cur2, fz2, r1, by omega, r3⟩) (hb.mono hB) ⟨_, _, _, r1⟩

/-- A row's length, told of a value. -/
def lenB : Value → Nat
  | .slice _ n _ => n
  | _ => 0

set_option maxRecDepth 100000 in
set_option maxHeartbeats 2000000 in
theorem dfill_any (x : ByteArray) (hx : x.size ≤ 64) (w : World) :
    Calls Try.prog 23 #[.string x] w fun e w' => e = .returned (.string (textD (fillD x.data.toList))) ∧ Below w.heap.size w w' := by
  obtain ⟨v, w1, hconv, hrow, hb⟩ := bytes_of_text w x (by omega)
  have hz := hb.size
  go_enter Try.func23, Try.ntmps23
  go_wp2_with fail
  clear hconv
  have Hx : Hid (x.data.toList.length = x.size) := Lib.hid rfl
  go_loopw [3] (fun bv W => ∃ k : Nat, x.size + k ≤ 64 ∧ Hid (ByteRow W w.heap.size bv (x.data.toList ++ List.replicate k 0)) ∧ Below w.heap.size w W ∧ ∃ ao n cap, bv = .slice ao n cap ∧ n = x.size + k) (fun bv _ => 64 - lenB bv)
  case atStart =>
    refine ⟨0, by omega, Lib.hid (by rw [List.replicate_zero, List.append_nil]; exact hrow), hb, ?_⟩
    obtain ⟨g, cap, cur, fz, rfl, _⟩ := hrow
    exact ⟨_, _, _, rfl, rfl⟩
  case round =>
    obtain ⟨k, hk, hrow, hb, ao, n, cap, rfl, rfl⟩ := hrel
    have hbz := hb.size
    by_cases hk64 : x.size + k < 64
    · go_wp2_with (at_builtin; refine wpList_append_byte rfl _ _ rfl w.heap.size _ _ rfl (hrow.out.below ((Below.refl _ _).alloc (Nat.le_refl _) _)) (by simp; omega) (by rw [List.length_append, List.length_replicate, Hx.out]; omega) ⟨_, 0, none⟩ 1 rfl (by go_simp) ?_; intro v' w' hr' hb' hs')
      have hl : (x.data.toList ++ List.replicate k 0 ++ [0]).length = x.size + (k + 1) := by
        rw [List.length_append, List.length_append, List.length_replicate, Hx.out]
        simp
        omega
      have hrr := hr'.out
      obtain ⟨g2, cap2, cur2, fz2, rfl, _⟩ := hr'.out
      refine ⟨⟨k + 1, by omega, Lib.hid ?_, (hb.alloc hbz _).trans hb', _, _, _, rfl, hl⟩, ?_⟩
      · rw [List.replicate_succ', ← List.append_assoc]
        exact hrr
      · show 64 - (x.data.toList ++ List.replicate k 0 ++ [0]).length < 64 - (x.size + k)
        omega
    · have hconv := hrow.out.conv
      have hfin : textD (x.data.toList ++ List.replicate k 0) = textD (fillD x.data.toList) := by
        unfold fillD
        rw [show 64 - x.data.toList.length = k by rw [Hx.out]; omega]
      rw [hfin] at hconv
      obtain ⟨Y, hY⟩ : ∃ Y, textD (fillD x.data.toList) = Y := ⟨_, rfl⟩
      rw [hY] at hconv
      have HY := Lib.hid hY
      clear hfin hY hrow
      go_wp2
      go_ret
      exact ⟨by rw [HY.out]; rfl, hb⟩
end Go.Proofs.Ytjmphdpeaahmfaa
