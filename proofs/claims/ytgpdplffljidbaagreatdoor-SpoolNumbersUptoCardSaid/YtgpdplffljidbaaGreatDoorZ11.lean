/-
  Texts of this proof, put together: Sh2, ChW, St0, SpB, SpC.
-/
import Derived.Test.YtgpdplffljidbaaGreatDoorZ03
import Derived.Test.YtgpdplffljidbaaGreatDoorZ10
import Derived.Laws.BitsAllLaws
import Derived.LoopIn
import Derived.Deep.LoopGhost
import Derived.Laws.AppendOwn
import Derived.Laws.OwnMore
import Derived.ArgAppend
import Derived.Laws.BitsLemmas
namespace Go.Proofs.YtgpdplffljidbaaGreatDoor
open Go.RowKit Go.Maps

def blkOf (v : Value) (b : Nat) : Prop := v.ownBlock = some b
abbrev OwnB9 (B : Nat) (w : World) (v : Value) (acc : List UInt8) : Prop := w.ownsRow B 5 1 v acc.length (Lib.byteCells acc)
theorem turned_grown {w w' : World} {v : Value} (h : w.grownBy w' v.ownBlock) : Turned (blkOf v) w w' := Turned.of_grown h fun _k hk => .inl hk
theorem fresh_at {w w0 : World} {v v' : Value} (h : v'.ownBlock = v.ownBlock ∨ v'.ownBlock = some w.heap.size) (hw : w0.heap.size ≤ w.heap.size) : FreshF w0 v v' := fun b e => by
  rcases h with h | h
  · exact .inl (by rw [← h]; exact e)
  · rw [h] at e
    cases e
    exact .inr hw
theorem wpList_append_b {w : World} {ops : Array Oper} {rest : List Oper} {o : Oper} {a : Act} {Q : Exit → Act → World → Prop} (hgd : o.guard = none) (s x : Operand)
    (ho : o.op = .call { callee := .builtin .append, args := #[s, x], argTypes := #[65, 65] }) (B : Nat) (v : Value) (acc : List UInt8) (b : UInt8) (hs : a.eval s = v) (hown : OwnB9 B w v acc) (hB : B ≤ w.heap.size) (hl : acc.length ≤ 1000000000)
    (g c : Nat) (hx : a.eval x = .slice (some ⟨g, 0, none⟩) 1 c) (h0 : w.cell? ⟨g, 0, none⟩ = some (.int .u8 (b.toNat : Int)))
    (h : ∀ v' w', OwnB9 B w' v' (acc ++ [b]) → Turned (blkOf v) w w' → FreshF w v v' → wpList Tryz.prog ops Q rest (a.put o.dst v') w') : wpList Tryz.prog ops Q (o :: rest) a w := by
  obtain ⟨i0, hi, hz0, hz1, hz2⟩ := info_parts infoB4
  refine wpList_append_own_at w hgd s x 65 ho B 5 i0 (.int .u8 0) 1 1 Tryz.underlying65 hi hz0 hz1 hz2 rfl (by decide) v acc.length (Lib.byteCells acc) hs hown ⟨g, 0, none⟩ 1 c [.int .u8 (b.toNat : Int)] hx rfl (fun j u hj => ?_) (fun u hu => ?_) (by unfold maxLen; omega) (by omega) hB (fun v' w' q1 q2 _ q3 => ?_)
  · rw [Addr.add_lit, Nat.zero_add]
    match j, hj with
    | 0, hj => cases hj; exact h0
    | j + 1, hj => cases hj
  · simp only [List.mem_cons, List.not_mem_nil, or_false] at hu
    subst hu
    rfl
  · refine h v' w' ?_ (turned_grown q2) (fresh_at q3 (Nat.le_refl _))
    unfold OwnB9
    rw [Lib.byteCells_append, List.length_append]
    exact q1

def bytesN (n : Nat) : Nat → List UInt8
  | 0 => []
  | k + 1 => UInt8.ofNat (n / 2 ^ (8 * k)) :: bytesN n k
theorem bytesN_len (n : Nat) : ∀ k, (bytesN n k).length = k
  | 0 => rfl
  | k + 1 => by rw [bytesN, List.length_cons, bytesN_len n k]

set_option maxRecDepth 100000 in
set_option maxHeartbeats 2000000 in
theorem appn_any (B : Nat) (v : Value) (acc : List UInt8) (n K : Nat) (hK : K ≤ 8) (w : World) (hown : OwnB9 B w v acc) (hB : B ≤ w.heap.size) (hl : acc.length ≤ 100000000) :
    Calls Tryz.prog 63 #[v, .int .u64 (n : Int), .int .i64 (K : Int)] w fun e w' => ∃ v', e = .returned v' ∧ OwnB9 B w' v' (acc ++ bytesN n K) ∧ Turned (blkOf v) w w' ∧ FreshF w v v' := by
  go_enter Tryz.func63, Tryz.ntmps63
  go_wp2
  go_loopw [0, 7] (fun vr iv wr => ∃ (j : Nat) (done : List UInt8), iv = .int .i64 ((j : Int) - 1) ∧ j ≤ K ∧ Hid (done ++ bytesN n j = bytesN n K) ∧ done.length ≤ 8 ∧ OwnB9 B wr vr (acc ++ done) ∧ Turned (blkOf v) w wr ∧ FreshF w v vr) (fun _ iv _ => (intOf iv + 1).toNat)
  case atStart => exact ⟨K, [], rfl, Nat.le_refl _, Lib.hid rfl, by simp, by rw [List.append_nil]; exact hown, Turned.refl _ _, FreshF.refl _ _⟩
  case round =>
    obtain ⟨j, done, rfl, hj, hd, hdl, hr, ht, hf⟩ := hrel
    have hsz := ht.size
    match j, hj, hd with
    | 0, hj, hd =>
      go_wp2
      go_ret
      have hdd := hd.out
      rw [bytesN, List.append_nil] at hdd
      rw [hdd] at hr
      exact ⟨_, rfl, hr, ht, hf⟩
    | i + 1, hj, hd =>
      have hlen : (acc ++ done).length ≤ 1000000000 := by rw [List.length_append]; omega
      have hby : (n : Int) / 2 ^ (8 * i) % 256 = ((UInt8.ofNat (n / 2 ^ (8 * i))).toNat : Int) := by
        rw [UInt8.toNat_ofNat']
        push_cast
        rfl
      have Hby := Lib.hid hby
      have hr2 := hr.alloc (.cells #[.int .u8 ((n : Int) / 2 ^ (8 * i) % 256)] 5)
      clear hby
      go_wp2_with (at_builtin; refine wpList_append_b rfl _ _ rfl B u0 (acc ++ done) (UInt8.ofNat (n / 2 ^ (8 * i))) rfl hr2 (by simp; omega) hlen wr.heap.size 1 rfl ?n1 ?_)
      case n1 => rw [← Hby.out]; go_simp
      intro v2 w2 hown2 ht2 hat2
      have ht3 : Turned (blkOf v) w w2 := (ht.trans (T := fun _ => False) (Turned.of_below ((Below.refl _ wr).alloc (Nat.le_refl _) _) (Nat.le_refl _)) (fun _ h => h.elim)).trans ht2 (fun b e => hf b e)
      have hf3 : FreshF w v v2 := hf.trans hat2 (by simp; omega)
      clear ht2 hat2 ht hr hr2 hf hsz
      have hrow2 : OwnB9 B w2 v2 (acc ++ (done ++ [UInt8.ofNat (n / 2 ^ (8 * i))])) := by first | exact hown2 | (rw [← List.append_assoc]; exact hown2)
      clear hown2
      go_wp2
      refine ⟨⟨i, done ++ [UInt8.ofNat (n / 2 ^ (8 * i))], by go_num, by omega, Lib.hid ?_, ?_, hrow2, ht3, hf3⟩, by simp [intOf]⟩
      · have := hd.out
        rw [bytesN] at this
        rw [List.append_assoc]
        exact this
      · rw [List.length_append]
        have := congrArg List.length hd.out
        rw [List.length_append, bytesN_len, bytesN_len] at this
        simp
        omega

theorem appn_of (B : Nat) (v : Value) (acc : List UInt8) (n K : Nat) (hK : K ≤ 8) (z k : Int) (hz : z = (n : Int)) (hk : k = (K : Int)) (w : World) (hown : OwnB9 B w v acc) (hB : B ≤ w.heap.size) (hl : acc.length ≤ 100000000) :
    Calls Tryz.prog 63 #[v, .int .u64 z, .int .i64 k] w fun e w' => ∃ v', e = .returned v' ∧ OwnB9 B w' v' (acc ++ bytesN n K) ∧ Turned (blkOf v) w w' ∧ FreshF w v v' := by
  subst hz hk
  exact appn_any B v acc n K hK w hown hB hl
def numB (l : List UInt8) : Int := l.foldl (fun n b => bits .or .u32 (n * 256 % 4294967296) ((b.toNat : Int) % 4294967296)) 0

set_option maxRecDepth 100000 in
set_option maxHeartbeats 2000000 in
theorem num_any (s : ByteArray) (hs : s.size ≤ 8) (w : World) :
    Calls Tryz.prog 76 #[.string s] w fun e w' => e = .returned (.int .u32 (numB s.data.toList)) ∧ w' = w := by
  have hl : s.data.toList.length = s.size := rfl
  have Hl := Lib.hid hl
  clear hl
  go_enter Tryz.func76, Tryz.ntmps76
  go_wp2
  go_loop [3, 7] (fun nv iv => ∃ i : Nat, i ≤ s.size ∧ iv = .int .i64 i ∧ nv = .int .u32 (numB (s.data.toList.take i))) (fun _ iv => s.size - (intOf iv).toNat)
  case atStart => exact ⟨0, by omega, rfl, rfl⟩
  case round =>
    obtain ⟨i, hi, rfl, rfl⟩ := hrel
    by_cases hlt : i < s.size
    · have htk : s.data.toList.take (i + 1) = s.data.toList.take i ++ [s[i]] := by
        rw [List.take_succ_eq_append_getElem (by rw [Hl.out]; exact hlt)]
        rfl
      have Hs : Hid (numB (s.data.toList.take (i + 1)) = bits .or .u32 (numB (s.data.toList.take i) * 256 % 4294967296) ((s[i].toNat : Int) % 4294967296)) := Lib.hid (by
        rw [htk]
        unfold numB
        rw [List.foldl_append]
        rfl)
      clear htk
      obtain ⟨n, hn⟩ : ∃ n, numB (s.data.toList.take i) = n := ⟨_, rfl⟩
      rw [hn] at Hs ⊢
      clear hn
      go_wp2
      go_round
      case rel => exact ⟨i + 1, by omega, by go_num, by rw [Hs.out]⟩
      case measure => simp [intOf]; omega
    · obtain rfl : i = s.size := by omega
      rw [List.take_of_length_le (by rw [Hl.out]; exact Nat.le_refl _)]
      go_wp2
      go_ret
      exact ⟨rfl, rfl⟩
end Go.Proofs.YtgpdplffljidbaaGreatDoor
namespace Go.Proofs.YtgpdplffljidbaaGreatDoor
open Go.RowKit Go.Maps

abbrev OwnC9 (B : Nat) (w : World) (v : Value) (l : List Ch) : Prop := w.ownsRow B 50 3 v l.length (chsCells l)
theorem infoWCh : (Tryz.prog.info? 50).map (fun i => (i.zero, i.size, i.bytes)) = some (some (.agg #[.string ⟨#[]⟩, .string ⟨#[]⟩, .bool false]), 3, 40) := by kernel_rfl
theorem OwnC9.at {w : World} {B : Nat} {v : Value} {l : List Ch} (h : OwnC9 B w v l) : ChsAt w w.heap.size v l := by
  have h2 := h.2
  rcases h2 with ⟨rfl, e⟩ | ⟨g, cap, cur, rfl, hb, hg, h1, h3, _⟩
  · exact ⟨none, 0, by rw [e], by omega, by decide, fun i hi => by omega⟩
  · refine ⟨_, cap, rfl, h1, h3, fun i hi => ⟨g, 0, rfl, (Array.getElem?_eq_some_iff.1 hg).1, ?_⟩⟩
    obtain ⟨q1, q2, q3⟩ := chs_at l i hi
    have c1 := World.ownsRow.cells (g := g) h rfl _ _ q1
    have c2 := World.ownsRow.cells (g := g) h rfl _ _ q2
    have c3 := World.ownsRow.cells (g := g) h rfl _ _ q3
    rw [Addr.add_lit] at c1 c2 c3
    exact ⟨c1, c2, c3⟩
theorem wpList_append_c {w : World} {ops : Array Oper} {rest : List Oper} {o : Oper} {a : Act} {Q : Exit → Act → World → Prop} (hgd : o.guard = none) (s x : Operand)
    (ho : o.op = .call { callee := .builtin .append, args := #[s, x], argTypes := #[35, 35] }) (B : Nat) (v : Value) (l : List Ch) (p : Ch) (hs : a.eval s = v) (hown : OwnC9 B w v l) (hB : B ≤ w.heap.size) (hl : l.length ≤ 100000000)
    (b c : Nat) (hx : a.eval x = .slice (some ⟨b, 0, none⟩) 1 c) (h0 : w.cell? ⟨b, 0, none⟩ = some (.string (textQ p.key))) (h1 : w.cell? ⟨b, 1, none⟩ = some (.string (textQ p.val))) (h2 : w.cell? ⟨b, 2, none⟩ = some (.bool p.gone))
    (h : ∀ v' w', OwnC9 B w' v' (l ++ [p]) → Turned (blkOf v) w w' → FreshF w v v' → wpList Tryz.prog ops Q rest (a.put o.dst v') w') : wpList Tryz.prog ops Q (o :: rest) a w := by
  obtain ⟨i0, hi, hz0, hz1, hz2⟩ := info_parts infoWCh
  refine wpList_append_own_at w hgd s x 35 ho B 50 i0 (.agg #[.string ⟨#[]⟩, .string ⟨#[]⟩, .bool false]) 3 40 Tryz.underlying35 hi hz0 hz1 hz2 rfl (by decide) v l.length (chsCells l) hs hown ⟨b, 0, none⟩ 1 c (chCells p) hx rfl (fun j u hj => ?_) (fun u hu => ?_) (by unfold maxLen; omega) (by omega) hB (fun v' w' q1 q2 _ q3 => ?_)
  · rw [Addr.add_lit, Nat.zero_add]
    match j, hj with
    | 0, hj => cases hj; exact h0
    | 1, hj => cases hj; exact h1
    | 2, hj => cases hj; exact h2
    | j + 3, hj => cases hj
  · simp only [chCells, List.mem_cons, List.not_mem_nil, or_false] at hu
    rcases hu with rfl | rfl | rfl <;> rfl
  · refine h v' w' ?_ (turned_grown q2) (fresh_at q3 (Nat.le_refl _))
    unfold OwnC9
    rw [chs_snoc, List.length_append]
    exact q1
end Go.Proofs.YtgpdplffljidbaaGreatDoor
namespace Go.Proofs.YtgpdplffljidbaaGreatDoor
open Go.RowKit Go.Maps

def FullB (w : World) (v : Value) (acc : List UInt8) : Prop := ∃ g, v = .slice (some ⟨g, 0, none⟩) acc.length acc.length ∧ ∀ j u, (Lib.byteCells acc)[j]? = some u → w.cell? ⟨g, j, none⟩ = some u
theorem FullB.below {w w' : World} {v : Value} {acc : List UInt8} (h : FullB w v acc) (hb : Below w.heap.size w w') : FullB w' v acc := by
  obtain ⟨g, h1, h2⟩ := h
  refine ⟨g, h1, fun j u hj => ?_⟩
  have := h2 j u hj
  have hg : g < w.heap.size := by
    by_cases hlt : g < w.heap.size
    · exact hlt
    · exfalso
      simp only [World.cell?] at this
      rw [Array.getElem?_eq_none (by omega)] at this
      cases this
  rw [hb.cell (p := ⟨g, j, none⟩) hg]
  exact this
theorem wpList_append_f {w : World} {ops : Array Oper} {rest : List Oper} {o : Oper} {a : Act} {Q : Exit → Act → World → Prop} (hgd : o.guard = none) (s x : Operand)
    (ho : o.op = .call { callee := .builtin .append, args := #[s, x], argTypes := #[65, 65] }) (v : Value) (acc : List UInt8) (b : UInt8) (hs : a.eval s = v) (hown : FullB w v acc) (hl : acc.length ≤ 1000000000)
    (g c : Nat) (hx : a.eval x = .slice (some ⟨g, 0, none⟩) 1 c) (h0 : w.cell? ⟨g, 0, none⟩ = some (.int .u8 (b.toNat : Int)))
    (h : ∀ v' w', OwnB9 w.heap.size w' v' (acc ++ [b]) → Below w.heap.size w w' → wpList Tryz.prog ops Q rest (a.put o.dst v') w') : wpList Tryz.prog ops Q (o :: rest) a w := by
  obtain ⟨i0, hi, hz0, hz1, hz2⟩ := info_parts infoB4
  obtain ⟨g0, rfl, hcl⟩ := hown
  refine wpList_append_arg w hgd s x 65 ho 5 i0 (.int .u8 0) 1 1 Tryz.underlying65 hi hz0 hz1 hz2 rfl (by decide) g0 0 acc.length acc.length (Lib.byteCells acc) hs (by rw [Lib.byteCells_length, Nat.mul_one]) (fun j u hj => by rw [Nat.zero_add]; exact hcl j u hj)
    ⟨g, 0, none⟩ 1 c [.int .u8 (b.toNat : Int)] hx rfl (fun j u hj => ?_) (fun u hu => ?_) (fun hr => by omega) (by unfold maxLen; omega) (by omega) (fun hr => by omega) (fun _ v' w' q1 q2 => ?_)
  · rw [Addr.add_lit, Nat.zero_add]
    match j, hj with
    | 0, hj => cases hj; exact h0
    | j + 1, hj => cases hj
  · simp only [List.mem_cons, List.not_mem_nil, or_false] at hu
    subst hu
    rfl
  · refine h v' w' ?_ ⟨q2.os, q2.tape, q2.output, q2.size, fun k hk => q2.block k hk (by simp)⟩
    unfold OwnB9
    rw [Lib.byteCells_append, List.length_append]
    exact q1

set_option maxRecDepth 100000 in
set_option maxHeartbeats 2000000 in
theorem appn_full (v : Value) (acc : List UInt8) (n K : Nat) (hK : K ≤ 8) (hK0 : 0 < K) (w : World) (hv : FullB w v acc) (hl : acc.length ≤ 100000000) :
    Calls Tryz.prog 63 #[v, .int .u64 (n : Int), .int .i64 (K : Int)] w fun e w' => ∃ v', e = .returned v' ∧ OwnB9 w.heap.size w' v' (acc ++ bytesN n K) ∧ Below w.heap.size w w' := by
  have Hv := Lib.hid hv
  have hsl : ∃ g, v = .slice (some ⟨g, 0, none⟩) acc.length acc.length := by obtain ⟨g, h, _⟩ := hv; exact ⟨g, h⟩
  clear hv
  go_enter Tryz.func63, Tryz.ntmps63
  go_wp2
  go_loopw [0, 7] (fun vr iv wr => ∃ (j : Nat) (done : List UInt8), iv = .int .i64 ((j : Int) - 1) ∧ j ≤ K ∧ Hid (done ++ bytesN n j = bytesN n K) ∧ done.length ≤ 8 ∧ Hid ((j = K ∧ done = [] ∧ vr = v ∧ wr = w) ∨ (OwnB9 w.heap.size wr vr (acc ++ done) ∧ Below w.heap.size w wr))) (fun _ iv _ => (intOf iv + 1).toNat)
  case atStart => exact ⟨K, [], rfl, Nat.le_refl _, Lib.hid rfl, by simp, Lib.hid (.inl ⟨rfl, rfl, rfl, rfl⟩)⟩
  case round =>
    obtain ⟨j, done, rfl, hj, hd, hdl, hr⟩ := hrel
    match j, hj, hd, hr with
    | 0, hj, hd, hr =>
      rcases hr.out with ⟨e, _⟩ | ⟨h1, h2⟩
      · omega
      · have hdd := hd.out
        rw [bytesN, List.append_nil] at hdd
        rw [hdd] at h1
        clear hr
        go_wp2
        go_ret
        exact ⟨_, rfl, h1, h2⟩
    | i + 1, hj, hd, hr =>
      have hby : (n : Int) / 2 ^ (8 * i) % 256 = ((UInt8.ofNat (n / 2 ^ (8 * i))).toNat : Int) := by
        rw [UInt8.toNat_ofNat']
        push_cast
        rfl
      have Hby := Lib.hid hby
      clear hby
      have hnext : (done ++ [UInt8.ofNat (n / 2 ^ (8 * i))]) ++ bytesN n i = bytesN n K := by
        have := hd.out
        rw [bytesN] at this
        rw [List.append_assoc]
        exact this
      have hnl : (done ++ [UInt8.ofNat (n / 2 ^ (8 * i))]).length ≤ 8 := by
        rw [List.length_append]
        have := congrArg List.length hd.out
        rw [List.length_append, bytesN_len, bytesN_len] at this
        simp
        omega
      have Hn := Lib.hid hnext
      clear hnext hd
      rcases hr.out with ⟨e, e1, e2, e3⟩ | ⟨h1, h2⟩
      · obtain ⟨g, hg⟩ := hsl
        clear hr e
        subst e1 e2 e3
        subst hg
        have hr2 := Hv.out.below ((Below.refl _ wr).alloc (Nat.le_refl _) (.cells #[.int .u8 ((n : Int) / 2 ^ (8 * i) % 256)] 5))
        go_wp2_with (at_builtin; refine wpList_append_f rfl _ _ rfl _ acc (UInt8.ofNat (n / 2 ^ (8 * i))) rfl hr2 (by omega) wr.heap.size 1 rfl (by rw [← Hby.out]; go_simp) ?_)
        intro v2 w2 hown2 hb2
        have hb3 : Below wr.heap.size wr w2 := ((Below.refl _ wr).alloc (Nat.le_refl _) _).trans (hb2.mono (by simp))
        have ho3 : OwnB9 wr.heap.size w2 v2 (acc ++ [UInt8.ofNat (n / 2 ^ (8 * i))]) := row_more hown2 (by simp)
        clear hown2 hb2 hr2
        obtain ⟨ao, cap, rfl⟩ := row_slice ho3
        go_wp2
        exact ⟨⟨i, [] ++ [UInt8.ofNat (n / 2 ^ (8 * i))], by go_num, by omega, Lib.hid Hn.out, hnl, Lib.hid (.inr ⟨ho3, hb3⟩)⟩, by simp [intOf]⟩
      · have hlen : (acc ++ done).length ≤ 1000000000 := by rw [List.length_append]; omega
        have hsz := h2.size
        have hr2 := h1.alloc (.cells #[.int .u8 ((n : Int) / 2 ^ (8 * i) % 256)] 5)
        have hrb : ∀ b, blkOf u0 b → w.heap.size ≤ b := fun b e => (row_block h1 e).1
        clear hr h1
        go_wp2_with (at_builtin; refine wpList_append_b rfl _ _ rfl w.heap.size u0 (acc ++ done) (UInt8.ofNat (n / 2 ^ (8 * i))) rfl hr2 (by simp; omega) hlen wr.heap.size 1 rfl ?n2 ?_)
        case n2 => rw [← Hby.out]; go_simp
        intro v2 w2 hown2 ht2 hat2
        have hb3 : Below w.heap.size w w2 := (h2.alloc hsz _).trans (ht2.below (by simp; omega) hrb)
        have ho3 : OwnB9 w.heap.size w2 v2 (acc ++ (done ++ [UInt8.ofNat (n / 2 ^ (8 * i))])) := by first | exact hown2 | (rw [← List.append_assoc]; exact hown2)
        clear hown2 ht2 hat2 hr2 h2 hrb
        go_wp2
        exact ⟨⟨i, done ++ [UInt8.ofNat (n / 2 ^ (8 * i))], by go_num, by omega, Lib.hid Hn.out, hnl, Lib.hid (.inr ⟨ho3, hb3⟩)⟩, by simp [intOf]⟩
end Go.Proofs.YtgpdplffljidbaaGreatDoor
namespace Go.Proofs.YtgpdplffljidbaaGreatDoor
open Go.RowKit

theorem num_appS (a b : List UInt8) : numS (a ++ b) = numS a * 256 ^ b.length + numS b := by
  unfold numS
  rw [List.foldl_append, num_foldS]
  rfl
theorem num_takeS (l : List UInt8) (i : Nat) : numS (l.take i) ≤ numS l := by
  have h := num_appS (l.take i) (l.drop i)
  rw [List.take_append_drop] at h
  have := Nat.mul_le_mul_left (numS (l.take i)) (show 1 ≤ 256 ^ (l.drop i).length from Nat.pow_pos (by decide))
  omega
theorem num_stepS (l : List UInt8) (i : Nat) (h : i < l.length) : numS (l.take (i + 1)) = numS (l.take i) * 256 + l[i].toNat := by
  rw [List.take_succ_eq_append_getElem h, num_appS]
  simp [numS]
theorem wraps_i64 (n : Int) (h0 : 0 ≤ n) (h1 : n < 2 ^ 63) : IntKind.i64.wrap n = n := by
  rw [IntKind.wrap_i64]
  omega
theorem or_byteS (n c : Nat) (hn : n < 2 ^ 55) (hc : c < 256) : bits .or .i64 (wrap64 ((n : Int) * 256)) (wrap64 (c : Int)) = ((n * 256 + c : Nat) : Int) := by
  rw [show wrap64 ((n : Int) * 256) = ((n * 256 : Nat) : Int) by unfold wrap64; omega, show wrap64 (c : Int) = (c : Int) by unfold wrap64; omega, (bits_nat .i64 63 (by decide) wraps_i64 (n * 256) c (by omega) (by omega)).2]
  have := Nat.shiftLeft_add_eq_or_of_lt (show c < 2 ^ 8 from hc) n
  rw [Nat.shiftLeft_eq] at this
  rw [← this]
set_option maxRecDepth 100000 in
theorem snum_any (s : ByteArray) (w : World) (hs : s.size ≤ 1000) (h : numS s.data.toList < 2 ^ 55) : Calls Tryz.prog 53 #[.string s] w fun e w' => e = .returned (.int .i64 (numS s.data.toList : Int)) ∧ w' = w := by
  go_enter Tryz.func53, Tryz.ntmps53
  go_wp2
  go_loopw [3, 7] (fun nv iv wr => ∃ i : Nat, i ≤ s.size ∧ iv = .int .i64 i ∧ nv = .int .i64 (numS (s.data.toList.take i) : Int) ∧ wr = w) (fun _ iv _ => s.size - (intOf iv).toNat)
  case atStart => exact ⟨0, by omega, rfl, rfl, rfl⟩
  case round =>
    obtain ⟨i, hi, rfl, rfl, rfl⟩ := hrel
    by_cases hlt : i < s.size
    · have hst := num_stepS s.data.toList i hlt
      have htk := num_takeS s.data.toList i
      obtain ⟨n, hn⟩ : ∃ n, numS (s.data.toList.take i) = n := ⟨_, rfl⟩
      rw [hn] at hst htk ⊢
      clear hn
      have hbit := Lib.hid (or_byteS n s[i].toNat (by omega) s[i].toNat_lt)
      have Hst := Lib.hid hst
      clear hst htk
      go_wp2
      go_roundw
      case rel => exact ⟨i + 1, by omega, by go_num, by rw [hbit.out, Hst.out]; rfl, trivial⟩
      case measure => simp [intOf]; omega
    · obtain rfl : i = s.size := by omega
      rw [List.take_of_length_le (show s.data.toList.length ≤ s.size from Nat.le_refl _)]
      go_wp2
      go_ret
      exact ⟨rfl, rfl⟩
end Go.Proofs.YtgpdplffljidbaaGreatDoor
namespace Go.Proofs.YtgpdplffljidbaaGreatDoor
open Go.RowKit

theorem bytes_beS (n : Nat) : ∀ k, bytesN n k = beS k n
  | 0 => by
    unfold bytesN beS
    rfl
  | k + 1 => by
    unfold bytesN beS
    rw [bytes_beS n k, Nat.pow_mul]
set_option maxRecDepth 100000 in
set_option maxHeartbeats 2000000 in
theorem sappn_any (B : Nat) (v : Value) (acc : List UInt8) (n K : Nat) (hK : K ≤ 8) (_hn : n < 2 ^ 62) (w : World) (hown : OwnB9 B w v acc) (hB : B ≤ w.heap.size) (hl : acc.length ≤ 100000000) :
    Calls Tryz.prog 50 #[v, .int .i64 (n : Int), .int .i64 (K : Int)] w fun e w' => ∃ v', e = .returned v' ∧ OwnB9 B w' v' (acc ++ bytesN n K) ∧ Turned (blkOf v) w w' ∧ FreshF w v v' := by
  go_enter Tryz.func50, Tryz.ntmps50
  go_wp2
  go_loopw [0, 7] (fun vr iv wr => ∃ (j : Nat) (done : List UInt8), iv = .int .i64 ((j : Int) - 1) ∧ j ≤ K ∧ Hid (done ++ bytesN n j = bytesN n K) ∧ done.length ≤ 8 ∧ OwnB9 B wr vr (acc ++ done) ∧ Turned (blkOf v) w wr ∧ FreshF w v vr) (fun _ iv _ => (intOf iv + 1).toNat)
  case atStart => exact ⟨K, [], rfl, Nat.le_refl _, Lib.hid rfl, by simp, by rw [List.append_nil]; exact hown, Turned.refl _ _, FreshF.refl _ _⟩
  case round =>
    obtain ⟨j, done, rfl, hj, hd, hdl, hr, ht, hf⟩ := hrel
    have hsz := ht.size
    match j, hj, hd with
    | 0, hj, hd =>
      go_wp2
      go_ret
      have hdd := hd.out
      rw [bytesN, List.append_nil] at hdd
      rw [hdd] at hr
      exact ⟨_, rfl, hr, ht, hf⟩
    | i + 1, hj, hd =>
      have hlen : (acc ++ done).length ≤ 1000000000 := by rw [List.length_append]; omega
      have hby : (n : Int) / 2 ^ (8 * i) % 256 = ((UInt8.ofNat (n / 2 ^ (8 * i))).toNat : Int) := by
        rw [UInt8.toNat_ofNat']
        push_cast
        rfl
      have Hby := Lib.hid hby
      have hr2 := hr.alloc (.cells #[.int .u8 ((n : Int) / 2 ^ (8 * i) % 256)] 5)
      clear hby
      go_wp2_with (at_builtin; refine wpList_append_b rfl _ _ rfl B u0 (acc ++ done) (UInt8.ofNat (n / 2 ^ (8 * i))) rfl hr2 (by simp; omega) hlen wr.heap.size 1 rfl ?n1 ?_)
      case n1 => rw [← Hby.out]; go_simp
      intro v2 w2 hown2 ht2 hat2
      have ht3 : Turned (blkOf v) w w2 := (ht.trans (T := fun _ => False) (Turned.of_below ((Below.refl _ wr).alloc (Nat.le_refl _) _) (Nat.le_refl _)) (fun _ h => h.elim)).trans ht2 (fun b e => hf b e)
      have hf3 : FreshF w v v2 := hf.trans hat2 (by simp; omega)
      clear ht2 hat2 ht hr hr2 hf hsz
      have hrow2 : OwnB9 B w2 v2 (acc ++ (done ++ [UInt8.ofNat (n / 2 ^ (8 * i))])) := by first | exact hown2 | (rw [← List.append_assoc]; exact hown2)
      clear hown2
      go_wp2
      refine ⟨⟨i, done ++ [UInt8.ofNat (n / 2 ^ (8 * i))], by go_num, by omega, Lib.hid ?_, ?_, hrow2, ht3, hf3⟩, by simp [intOf]⟩
      · have := hd.out
        rw [bytesN] at this
        rw [List.append_assoc]
        exact this
      · rw [List.length_append]
        have := congrArg List.length hd.out
        rw [List.length_append, bytesN_len, bytesN_len] at this
        simp
        omega

end Go.Proofs.YtgpdplffljidbaaGreatDoor
