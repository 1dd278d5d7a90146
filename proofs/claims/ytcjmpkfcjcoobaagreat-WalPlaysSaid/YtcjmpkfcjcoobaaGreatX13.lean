/-
  Texts of this proof, put together: Sh1, Sh2.
-/
import Derived.Test.YtcjmpkfcjcoobaaGreatRows
import Derived.WalkKit
import Derived.WalkSpells
import Derived.IntWalk
import Derived.Lib.Hide
import Derived.Laws.BitsAllLaws
import Derived.Test.YtcjmpkfcjcoobaaGreatX03
import Derived.Test.YtcjmpkfcjcoobaaGreatX02
import Derived.LoopIn
import Derived.Deep.LoopGhost
namespace Go.Proofs.YtcjmpkfcjcoobaaGreat
open Go.RowKit

/-- Turned to the right. -/
def turnW (x : Int) (k : Nat) : Int := bits .or .u32 (x * 2 ^ (32 - k) % 4294967296) (x / 2 ^ k)
theorem shift_back : ∀ k : Fin 32, bits BinOp.and IntKind.u64 (IntKind.u64.wrap (-((k.val : Nat) : Int))) 31 = (((32 - k.val) % 32 : Nat) : Int) := by decide +kernel

theorem rot_any (x : Int) (k : Nat) (h1 : 1 ≤ k) (h2 : k ≤ 31) (w : World) :
    Calls Tryz.prog 125 #[.int .u32 x, .int .i64 (-(k : Int))] w fun e w' => e = .returned (.int .u32 (turnW x k)) ∧ w' = w := by
  have hs := shift_back ⟨k, by omega⟩
  simp only at hs
  rw [show (32 - k) % 32 = 32 - k by omega] at hs
  obtain ⟨s, hsk⟩ : ∃ s, 32 - k = s := ⟨_, rfl⟩
  obtain ⟨z, hz⟩ : ∃ z : Int, -(k : Int) = z := ⟨_, rfl⟩
  have hk : k = 32 - s := by omega
  unfold turnW
  rw [hsk]
  rw [hsk, hz] at hs
  rw [hz]
  have Hk := Lib.hid hk
  have Hs := Lib.hid (show k ≤ 31 ∧ s ≤ 31 by omega)
  clear hsk hz hk h1 h2
  go_enter Tryz.func125, Tryz.ntmps125
  go_wp2
  go_ret
  refine ⟨?_, rfl⟩
  have h3 := Hs.out
  have h2 : IntKind.u64.wrap (32 - (s : Int)) = (k : Int) := by
    have := Hk.out
    rw [IntKind.wrap_u64]
    omega
  show Ending.returned (Value.int IntKind.u32 (bits BinOp.or IntKind.u32 (x * 2 ^ min s 32 % 4294967296) (x / 2 ^ min (IntKind.u64.wrap (32 - ↑s)).toNat 32))) = _
  rw [h2, show min s 32 = s by omega, show min (k : Int).toNat 32 = k by omega]

theorem turned_any (x : Int) (k : Nat) (h1 : 1 ≤ k) (h2 : k ≤ 31) (w : World) :
    Calls Tryz.prog 107 #[.int .u32 x, .int .i64 (k : Int)] w fun e w' => e = .returned (.int .u32 (turnW x k)) ∧ w' = w := by
  have h := rot_any x k h1 h2 w
  go_enter Tryz.func107, Tryz.ntmps107
  go_wp2_with (go_at_call 125; refine h.mono ?_; rintro e w' ⟨rfl, rfl⟩)
  go_ret
  exact ⟨rfl, rfl⟩
theorem turned_z (x z : Int) (h1 : 1 ≤ z) (h2 : z ≤ 31) (w : World) :
    Calls Tryz.prog 107 #[.int .u32 x, .int .i64 z] w fun e w' => e = .returned (.int .u32 (turnW x z.toNat)) ∧ w' = w := by
  have := turned_any x z.toNat (by omega) (by omega) w
  rw [show ((z.toNat : Nat) : Int) = z by omega] at this
  exact this
end Go.Proofs.YtcjmpkfcjcoobaaGreat
namespace Go.Proofs.YtcjmpkfcjcoobaaGreat
open Go.RowKit Go.Maps

/-- The block in which a row lies. -/
def blkOf (v : Value) (b : Nat) : Prop := v.ownBlock = some b
/-- A row of bytes of somebody's own. -/
abbrev OwnB9 (B : Nat) (w : World) (v : Value) (acc : List UInt8) : Prop := w.ownsRow B 5 1 v acc.length (Lib.byteCells acc)
theorem turned_grown {w w' : World} {v : Value} (h : w.grownBy w' v.ownBlock) : Turned (blkOf v) w w' := Turned.of_grown h fun k hk => .inl hk
theorem fresh_at {w w0 : World} {v v' : Value} (h : v'.ownBlock = v.ownBlock ∨ v'.ownBlock = some w.heap.size) (hw : w0.heap.size ≤ w.heap.size) : FreshF w0 v v' := fun b e => by
  rcases h with h | h
  · exact .inl (by rw [← h]; exact e)
  · rw [h] at e
    cases e
    exact .inr hw
/-- A byte is laid behind a row of bytes. -/
theorem wpList_append_b {w : World} {ops : Array Oper} {rest : List Oper} {o : Oper} {a : Act} {Q : Exit → Act → World → Prop} (hgd : o.guard = none) (s x : Operand)
    (ho : o.op = .call { callee := .builtin .append, args := #[s, x], argTypes := #[72, 72] }) (B : Nat) (v : Value) (acc : List UInt8) (b : UInt8) (hs : a.eval s = v) (hown : OwnB9 B w v acc) (hB : B ≤ w.heap.size) (hl : acc.length ≤ 1000000000)
    (g c : Nat) (hx : a.eval x = .slice (some ⟨g, 0, none⟩) 1 c) (h0 : w.cell? ⟨g, 0, none⟩ = some (.int .u8 (b.toNat : Int)))
    (h : ∀ v' w', OwnB9 B w' v' (acc ++ [b]) → Turned (blkOf v) w w' → FreshF w v v' → wpList Tryz.prog ops Q rest (a.put o.dst v') w') : wpList Tryz.prog ops Q (o :: rest) a w := by
  obtain ⟨i0, hi, hz0, hz1, hz2⟩ := info_parts infoB4
  refine wpList_append_own_at w hgd s x 72 ho B 5 i0 (.int .u8 0) 1 1 Tryz.underlying72 hi hz0 hz1 hz2 rfl (by decide) v acc.length (Lib.byteCells acc) hs hown ⟨g, 0, none⟩ 1 c [.int .u8 (b.toNat : Int)] hx rfl (fun j u hj => ?_) (fun u hu => ?_) (by unfold maxLen; omega) (by omega) hB (fun v' w' q1 q2 _ q3 => ?_)
  · rw [Addr.add_lit, Nat.zero_add]
    match j, hj with
    | 0, hj => cases hj; exact h0
    | j + 1, hj => cases hj
  · simp only [List.mem_cons, List.not_mem_nil, or_false] at hu
    subst hu
    rfl
  · refine h v' w' ?_ (turned_grown q2) (fresh_at q3 (Nat.le_refl _))
    unfold OwnB9
    rw [Lib.byteCells_append, List.length_append]
    exact q1

/-- A number's last bytes, so many, the highest first. -/
def bytesN (n : Nat) : Nat → List UInt8
  | 0 => []
  | k + 1 => UInt8.ofNat (n / 2 ^ (8 * k)) :: bytesN n k
theorem bytesN_len (n : Nat) : ∀ k, (bytesN n k).length = k
  | 0 => rfl
  | k + 1 => by rw [bytesN, List.length_cons, bytesN_len n k]

set_option maxRecDepth 100000 in
set_option maxHeartbeats 2000000 in
theorem appn_any (B : Nat) (v : Value) (acc : List UInt8) (n K : Nat) (hK : K ≤ 8) (w : World) (hown : OwnB9 B w v acc) (hB : B ≤ w.heap.size) (hl : acc.length ≤ 100000000) :
    Calls Tryz.prog 31 #[v, .int .u64 (n : Int), .int .i64 (K : Int)] w fun e w' => ∃ v', e = .returned v' ∧ OwnB9 B w' v' (acc ++ bytesN n K) ∧ Turned (blkOf v) w w' ∧ FreshF w v v' := by
  go_enter Tryz.func31, Tryz.ntmps31
  go_wp2
  go_loopw [0, 7] (fun vr iv wr => ∃ (j : Nat) (done : List UInt8), iv = .int .i64 ((j : Int) - 1) ∧ j ≤ K ∧ Hid (done ++ bytesN n j = bytesN n K) ∧ done.length ≤ 8 ∧ OwnB9 B wr vr (acc ++ done) ∧ Turned (blkOf v) w wr ∧ FreshF w v vr) (fun _ iv _ => (intOf iv + 1).toNat)
  case atStart => exact ⟨K, [], rfl, Nat.le_refl _, Lib.hid rfl, by simp, by rw [List.append_nil]; exact hown, Turned.refl _ _, FreshF.refl _ _⟩
  case round =>
    obtain ⟨j, done, rfl, hj, hd, hdl, hr, ht, hf⟩ := hrel
    have hsz := ht.size
    match j, hj, hd with
    | 0, hj, hd =>
      go_wp2
      go_ret
      have hdd := hd.out
      rw [bytesN, List.append_nil] at hdd
      rw [hdd] at hr
      exact ⟨_, rfl, hr, ht, hf⟩
    | i + 1, hj, hd =>
      have hlen : (acc ++ done).length ≤ 1000000000 := by rw [List.length_append]; omega
      have hby : (n : Int) / 2 ^ (8 * i) % 256 = ((UInt8.ofNat (n / 2 ^ (8 * i))).toNat : Int) := by
        rw [UInt8.toNat_ofNat']
        push_cast
        rfl
      have Hby := Lib.hid hby
      have hr2 := hr.alloc (.cells #[.int .u8 ((n : Int) / 2 ^ (8 * i) % 256)] 5)
      clear hby
      go_wp2_with (at_builtin; refine wpList_append_b rfl _ _ rfl B u0 (acc ++ done) (UInt8.ofNat (n / 2 ^ (8 * i))) rfl hr2 (by simp; omega) hlen wr.heap.size 1 rfl ?n1 ?_)
      case n1 => rw [← Hby.out]; go_simp
      intro v2 w2 hown2 ht2 hat2
      have ht3 : Turned (blkOf v) w w2 := (ht.trans (T := fun _ => False) (Turned.of_below ((Below.refl _ wr).alloc (Nat.le_refl _) _) (Nat.le_refl _)) (fun _ h => h.elim)).trans ht2 (fun b e => hf b e)
      have hf3 : FreshF w v v2 := hf.trans hat2 (by simp; omega)
      clear ht2 hat2 ht hr hr2 hf hsz
      have hrow2 : OwnB9 B w2 v2 (acc ++ (done ++ [UInt8.ofNat (n / 2 ^ (8 * i))])) := by first | exact hown2 | (rw [← List.append_assoc]; exact hown2)
      clear hown2
      go_wp2
      refine ⟨⟨i, done ++ [UInt8.ofNat (n / 2 ^ (8 * i))], by go_num, by omega, Lib.hid ?_, ?_, hrow2, ht3, hf3⟩, by simp [intOf]⟩
      · have := hd.out
        rw [bytesN] at this
        rw [List.append_assoc]
        exact this
      · rw [List.length_append]
        have := congrArg List.length hd.out
        rw [List.length_append, bytesN_len, bytesN_len] at this
        simp
        omega

theorem appn_of (B : Nat) (v : Value) (acc : List UInt8) (n K : Nat) (hK : K ≤ 8) (z k : Int) (hz : z = (n : Int)) (hk : k = (K : Int)) (w : World) (hown : OwnB9 B w v acc) (hB : B ≤ w.heap.size) (hl : acc.length ≤ 100000000) :
    Calls Tryz.prog 31 #[v, .int .u64 z, .int .i64 k] w fun e w' => ∃ v', e = .returned v' ∧ OwnB9 B w' v' (acc ++ bytesN n K) ∧ Turned (blkOf v) w w' ∧ FreshF w v v' := by
  subst hz hk
  exact appn_any B v acc n K hK w hown hB hl
/-- What a text says as a number. -/
def numB (l : List UInt8) : Int := l.foldl (fun n b => bits .or .u32 (n * 256 % 4294967296) ((b.toNat : Int) % 4294967296)) 0

set_option maxRecDepth 100000 in
set_option maxHeartbeats 2000000 in
theorem num_any (s : ByteArray) (hs : s.size ≤ 8) (w : World) :
    Calls Tryz.prog 34 #[.string s] w fun e w' => e = .returned (.int .u32 (numB s.data.toList)) ∧ w' = w := by
  have hl : s.data.toList.length = s.size := rfl
  have Hl := Lib.hid hl
  clear hl
  go_enter Tryz.func34, Tryz.ntmps34
  go_wp2
  go_loop [3, 7] (fun nv iv => ∃ i : Nat, i ≤ s.size ∧ iv = .int .i64 i ∧ nv = .int .u32 (numB (s.data.toList.take i))) (fun _ iv => s.size - (intOf iv).toNat)
  case atStart => exact ⟨0, by omega, rfl, rfl⟩
  case round =>
    obtain ⟨i, hi, rfl, rfl⟩ := hrel
    by_cases hlt : i < s.size
    · have htk : s.data.toList.take (i + 1) = s.data.toList.take i ++ [s[i]] := by
        rw [List.take_succ_eq_append_getElem (by rw [Hl.out]; exact hlt)]
        rfl
      have Hs : Hid (numB (s.data.toList.take (i + 1)) = bits .or .u32 (numB (s.data.toList.take i) * 256 % 4294967296) ((s[i].toNat : Int) % 4294967296)) := Lib.hid (by
        rw [htk]
        unfold numB
        rw [List.foldl_append]
        rfl)
      clear htk
      obtain ⟨n, hn⟩ : ∃ n, numB (s.data.toList.take i) = n := ⟨_, rfl⟩
      rw [hn] at Hs ⊢
      clear hn
      go_wp2
      go_round
      case rel => exact ⟨i + 1, by omega, by go_num, by rw [Hs.out]⟩
      case measure => simp [intOf]; omega
    · obtain rfl : i = s.size := by omega
      rw [List.take_of_length_le (by rw [Hl.out]; exact Nat.le_refl _)]
      go_wp2
      go_ret
      exact ⟨rfl, rfl⟩
end Go.Proofs.YtcjmpkfcjcoobaaGreat
