/-
  Texts of this proof, put together: Sh9, St0.
-/
import Derived.Test.YtcjmpkfcjcoobaaGreatX19
import Derived.Test.YtcjmpkfcjcoobaaGreatX13
import Derived.ArgAppend
namespace Go.Proofs.YtcjmpkfcjcoobaaGreat
open Go.RowKit

theorem sum_abc : (sumH [97, 98, 99])[0]? = some 186 ∧ (sumH [97, 98, 99])[31]? = some 173 := by decide +kernel
end Go.Proofs.YtcjmpkfcjcoobaaGreat
namespace Go.Proofs.YtcjmpkfcjcoobaaGreat
open Go.RowKit Go.Maps

/-- Bytes that fill their place to the last. -/
def FullB (w : World) (v : Value) (acc : List UInt8) : Prop := ∃ g, v = .slice (some ⟨g, 0, none⟩) acc.length acc.length ∧ ∀ j u, (Lib.byteCells acc)[j]? = some u → w.cell? ⟨g, j, none⟩ = some u
theorem FullB.below {w w' : World} {v : Value} {acc : List UInt8} (h : FullB w v acc) (hb : Below w.heap.size w w') : FullB w' v acc := by
  obtain ⟨g, h1, h2⟩ := h
  refine ⟨g, h1, fun j u hj => ?_⟩
  have := h2 j u hj
  have hg : g < w.heap.size := by
    by_cases hlt : g < w.heap.size
    · exact hlt
    · exfalso
      simp only [World.cell?] at this
      rw [Array.getElem?_eq_none (by omega)] at this
      cases this
  rw [hb.cell (p := ⟨g, j, none⟩) hg]
  exact this
/-- A byte is laid behind them. -/
theorem wpList_append_f {w : World} {ops : Array Oper} {rest : List Oper} {o : Oper} {a : Act} {Q : Exit → Act → World → Prop} (hgd : o.guard = none) (s x : Operand)
    (ho : o.op = .call { callee := .builtin .append, args := #[s, x], argTypes := #[72, 72] }) (v : Value) (acc : List UInt8) (b : UInt8) (hs : a.eval s = v) (hown : FullB w v acc) (hl : acc.length ≤ 1000000000)
    (g c : Nat) (hx : a.eval x = .slice (some ⟨g, 0, none⟩) 1 c) (h0 : w.cell? ⟨g, 0, none⟩ = some (.int .u8 (b.toNat : Int)))
    (h : ∀ v' w', OwnB9 w.heap.size w' v' (acc ++ [b]) → Below w.heap.size w w' → wpList Tryz.prog ops Q rest (a.put o.dst v') w') : wpList Tryz.prog ops Q (o :: rest) a w := by
  obtain ⟨i0, hi, hz0, hz1, hz2⟩ := info_parts infoB4
  obtain ⟨g0, rfl, hcl⟩ := hown
  refine wpList_append_arg w hgd s x 72 ho 5 i0 (.int .u8 0) 1 1 Tryz.underlying72 hi hz0 hz1 hz2 rfl (by decide) g0 0 acc.length acc.length (Lib.byteCells acc) hs (by rw [Lib.byteCells_length, Nat.mul_one]) (fun j u hj => by rw [Nat.zero_add]; exact hcl j u hj)
    ⟨g, 0, none⟩ 1 c [.int .u8 (b.toNat : Int)] hx rfl (fun j u hj => ?_) (fun u hu => ?_) (fun hr => by omega) (by unfold maxLen; omega) (by omega) (fun hr => by omega) (fun _ v' w' q1 q2 => ?_)
  · rw [Addr.add_lit, Nat.zero_add]
    match j, hj with
    | 0, hj => cases hj; exact h0
    | j + 1, hj => cases hj
  · simp only [List.mem_cons, List.not_mem_nil, or_false] at hu
    subst hu
    rfl
  · refine h v' w' ?_ ⟨q2.os, q2.tape, q2.output, q2.size, fun k hk => q2.block k hk (by simp)⟩
    unfold OwnB9
    rw [Lib.byteCells_append, List.length_append]
    exact q1

set_option maxRecDepth 100000 in
set_option maxHeartbeats 2000000 in
theorem appn_full (v : Value) (acc : List UInt8) (n K : Nat) (hK : K ≤ 8) (hK0 : 0 < K) (w : World) (hv : FullB w v acc) (hl : acc.length ≤ 100000000) :
    Calls Tryz.prog 31 #[v, .int .u64 (n : Int), .int .i64 (K : Int)] w fun e w' => ∃ v', e = .returned v' ∧ OwnB9 w.heap.size w' v' (acc ++ bytesN n K) ∧ Below w.heap.size w w' := by
  have Hv := Lib.hid hv
  have hsl : ∃ g, v = .slice (some ⟨g, 0, none⟩) acc.length acc.length := by obtain ⟨g, h, _⟩ := hv; exact ⟨g, h⟩
  clear hv
  go_enter Tryz.func31, Tryz.ntmps31
  go_wp2
  go_loopw [0, 7] (fun vr iv wr => ∃ (j : Nat) (done : List UInt8), iv = .int .i64 ((j : Int) - 1) ∧ j ≤ K ∧ Hid (done ++ bytesN n j = bytesN n K) ∧ done.length ≤ 8 ∧ Hid ((j = K ∧ done = [] ∧ vr = v ∧ wr = w) ∨ (OwnB9 w.heap.size wr vr (acc ++ done) ∧ Below w.heap.size w wr))) (fun _ iv _ => (intOf iv + 1).toNat)
  case atStart => exact ⟨K, [], rfl, Nat.le_refl _, Lib.hid rfl, by simp, Lib.hid (.inl ⟨rfl, rfl, rfl, rfl⟩)⟩
  case round =>
    obtain ⟨j, done, rfl, hj, hd, hdl, hr⟩ := hrel
    match j, hj, hd, hr with
    | 0, hj, hd, hr =>
      rcases hr.out with ⟨e, _⟩ | ⟨h1, h2⟩
      · omega
      · have hdd := hd.out
        rw [bytesN, List.append_nil] at hdd
        rw [hdd] at h1
        clear hr
        go_wp2
        go_ret
        exact ⟨_, rfl, h1, h2⟩
    | i + 1, hj, hd, hr =>
      have hby : (n : Int) / 2 ^ (8 * i) % 256 = ((UInt8.ofNat (n / 2 ^ (8 * i))).toNat : Int) := by
        rw [UInt8.toNat_ofNat']
        push_cast
        rfl
      have Hby := Lib.hid hby
      clear hby
      have hnext : (done ++ [UInt8.ofNat (n / 2 ^ (8 * i))]) ++ bytesN n i = bytesN n K := by
        have := hd.out
        rw [bytesN] at this
        rw [List.append_assoc]
        exact this
      have hnl : (done ++ [UInt8.ofNat (n / 2 ^ (8 * i))]).length ≤ 8 := by
        rw [List.length_append]
        have := congrArg List.length hd.out
        rw [List.length_append, bytesN_len, bytesN_len] at this
        simp
        omega
      have Hn := Lib.hid hnext
      clear hnext hd
      rcases hr.out with ⟨e, e1, e2, e3⟩ | ⟨h1, h2⟩
      · obtain ⟨g, hg⟩ := hsl
        clear hr e
        subst e1 e2 e3
        subst hg
        have hr2 := Hv.out.below ((Below.refl _ wr).alloc (Nat.le_refl _) (.cells #[.int .u8 ((n : Int) / 2 ^ (8 * i) % 256)] 5))
        go_wp2_with (at_builtin; refine wpList_append_f rfl _ _ rfl _ acc (UInt8.ofNat (n / 2 ^ (8 * i))) rfl hr2 (by omega) wr.heap.size 1 rfl (by rw [← Hby.out]; go_simp) ?_)
        intro v2 w2 hown2 hb2
        have hb3 : Below wr.heap.size wr w2 := ((Below.refl _ wr).alloc (Nat.le_refl _) _).trans (hb2.mono (by simp))
        have ho3 : OwnB9 wr.heap.size w2 v2 (acc ++ [UInt8.ofNat (n / 2 ^ (8 * i))]) := row_more hown2 (by simp)
        clear hown2 hb2 hr2
        obtain ⟨ao, cap, rfl⟩ := row_slice ho3
        go_wp2
        exact ⟨⟨i, [] ++ [UInt8.ofNat (n / 2 ^ (8 * i))], by go_num, by omega, Lib.hid Hn.out, hnl, Lib.hid (.inr ⟨ho3, hb3⟩)⟩, by simp [intOf]⟩
      · have hlen : (acc ++ done).length ≤ 1000000000 := by rw [List.length_append]; omega
        have hsz := h2.size
        have hr2 := h1.alloc (.cells #[.int .u8 ((n : Int) / 2 ^ (8 * i) % 256)] 5)
        have hrb : ∀ b, blkOf u0 b → w.heap.size ≤ b := fun b e => (row_block h1 e).1
        clear hr h1
        go_wp2_with (at_builtin; refine wpList_append_b rfl _ _ rfl w.heap.size u0 (acc ++ done) (UInt8.ofNat (n / 2 ^ (8 * i))) rfl hr2 (by simp; omega) hlen wr.heap.size 1 rfl ?n2 ?_)
        case n2 => rw [← Hby.out]; go_simp
        intro v2 w2 hown2 ht2 hat2
        have hb3 : Below w.heap.size w w2 := (h2.alloc hsz _).trans (ht2.below (by simp; omega) hrb)
        have ho3 : OwnB9 w.heap.size w2 v2 (acc ++ (done ++ [UInt8.ofNat (n / 2 ^ (8 * i))])) := by first | exact hown2 | (rw [← List.append_assoc]; exact hown2)
        clear hown2 ht2 hat2 hr2 h2 hrb
        go_wp2
        exact ⟨⟨i, done ++ [UInt8.ofNat (n / 2 ^ (8 * i))], by go_num, by omega, Lib.hid Hn.out, hnl, Lib.hid (.inr ⟨ho3, hb3⟩)⟩, by simp [intOf]⟩
end Go.Proofs.YtcjmpkfcjcoobaaGreat
