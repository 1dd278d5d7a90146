/-
  Texts of this proof, put together: Conv, Turn, Row9, SyncA, Sync, S7F, SecA.
-/
import Derived.Test.YtgpdplffljidbaaGreatDoorRows
import Derived.WalkKit
import Derived.WalkSpells
import Derived.WalkLawsBesides
import Derived.Laws.BytesArg
import Derived.Laws.AppendOwn
import Derived.Lib.AppendStr
import Derived.Lib.UnsafeStr
import Derived.Below
import Derived.Lib.Hide
import Derived.Maps.AppendAt
import Derived.Deep.MidRow
import Derived.ChangeKeysEq
import Derived.Laws.Externs
import Derived.Defers
import Derived.Laws.LoneSync
import Derived.Laws.Pointers
import Derived.RegionTactic
import Derived.ChangeAlike
import Derived.Lib.Strings
namespace Go.Proofs.YtgpdplffljidbaaGreatDoor
open Go.RowKit

theorem infoB4 : (Tryz.prog.info? 5).map (fun i => (i.zero, i.size, i.bytes)) = some (some (.int .u8 0), 1, 1) := by kernel_rfl
set_option maxRecDepth 100000 in
theorem conv_own4 {w : World} {base : Nat} {v : Value} {n : Nat} {l : List UInt8} (h : w.ownsRow base 5 1 v n (Lib.byteCells l)) : (convert 65 9 v).run Tryz.prog w = .ok (.string ⟨l.toArray⟩) w := by
  have hl : l.length = n := by
    have := h.1
    rw [Lib.byteCells_length] at this
    omega
  rcases h.2 with ⟨rfl, rfl⟩ | ⟨g, cap, cur, rfl, hb, hg, hnc, hcm, hcs, ht⟩
  · have hn : l = [] := List.eq_nil_of_length_eq_zero hl
    subst hn
    exact run_convert_bytes_nil w 65 5 Tryz.underlying65 Tryz.underlying5 0 0 9 Tryz.underlying9
  · have := run_convert_bytes_arg (P := Tryz.prog) w 65 5 Tryz.underlying65 Tryz.underlying5 g 0 n cap (l.map fun b => (b.toNat : Int)) (by rw [List.length_map, hl]) (fun i hi => by
      have hc := h.cells (g := g) rfl i (.int .u8 ((l.map fun b => (b.toNat : Int)).getD i 0)) (by
        unfold Lib.byteCells
        rw [List.getElem?_map, List.getElem?_eq_getElem (by omega)]
        simp [List.getD, List.getElem?_map, List.getElem?_eq_getElem (show i < l.length by omega)])
      rw [Addr.add_lit] at hc
      exact hc) 9 Tryz.underlying9
    rw [this]
    congr 2
    unfold strOfNums
    congr 1
    simp [List.map_map, Function.comp_def]
theorem ownsRow_below4 {w w' : World} {B e size n : Nat} {v : Value} {xs : List Value} (h : w.ownsRow B e size v n xs) (hb : Below w.heap.size w w') : w'.ownsRow B e size v n xs :=
  ⟨h.1, h.2.imp id fun ⟨g, cap, cur, h1, h2, h3, h4⟩ => ⟨g, cap, cur, h1, h2, (hb.block g (by
    rcases Nat.lt_or_ge g w.heap.size with h | h
    · exact h
    · rw [Array.getElem?_eq_none h] at h3; cases h3)).trans h3, h4⟩⟩
end Go.Proofs.YtgpdplffljidbaaGreatDoor
namespace Go.Proofs.YtgpdplffljidbaaGreatDoor
open Go.RowKit

structure Turned (S : Nat → Prop) (w w' : World) : Prop where
  os : w'.os = w.os
  tape : w'.tape = w.tape
  output : w'.output = w.output
  size : w.heap.size ≤ w'.heap.size
  block : ∀ k, k < w.heap.size → ¬ S k → w'.heap[k]? = w.heap[k]?

section
variable {S T : Nat → Prop} {w w' w'' : World}
theorem Turned.refl (S : Nat → Prop) (w : World) : Turned S w w := ⟨rfl, rfl, rfl, Nat.le_refl _, fun _ _ _ => rfl⟩
theorem Turned.trans (h : Turned S w w') (k : Turned T w' w'') (hT : ∀ b, T b → S b ∨ w.heap.size ≤ b) : Turned S w w'' :=
  ⟨k.os.trans h.os, k.tape.trans h.tape, k.output.trans h.output, Nat.le_trans h.size k.size, fun i hi hs =>
    (k.block i (Nat.lt_of_lt_of_le hi h.size) (fun e => (hT i e).elim hs (fun h => by omega))).trans (h.block i hi hs)⟩
theorem Turned.of_below {B : Nat} (h : Below B w w') (hB : w.heap.size ≤ B) : Turned S w w' := ⟨h.os, h.tape, h.output, h.size, fun k hk _ => h.block k (Nat.lt_of_lt_of_le hk hB)⟩
theorem Turned.of_grown {row : Option Nat} (h : w.grownBy w' row) (hr : ∀ k, row = some k → S k ∨ w.heap.size ≤ k) : Turned S w w' :=
  ⟨h.os, h.tape, h.output, h.size, fun k hk hs => h.block k hk (fun e => (hr k e.symm).elim hs (fun h => by omega))⟩
theorem Turned.below {B : Nat} (h : Turned S w w') (hB : B ≤ w.heap.size) (hS : ∀ b, S b → B ≤ b) : Below B w w' :=
  ⟨h.os, h.tape, h.output, h.size, fun k hk => h.block k (Nat.lt_of_lt_of_le hk hB) (fun e => by have := hS k e; omega)⟩
theorem Turned.set {j : Nat} {N : Nat} {v : Value} (hN : S N) : Turned S w (w.setCell ⟨N, j, none⟩ v) :=
  ⟨rfl, rfl, rfl, by simp [World.setCell], fun k _ hs => Below.heap_setCell w ⟨N, j, none⟩ v k (fun e => hs (by rw [e]; exact hN))⟩
theorem Turned.drew : Turned S w w.drew := ⟨rfl, rfl, rfl, Nat.le_refl _, fun _ _ _ => rfl⟩
theorem Turned.heap (h : Turned S w w') {k : Nat} {o : Obj} (hk : w.heap[k]? = some o) (hs : ¬ S k) : w'.heap[k]? = some o :=
  (h.block k (Array.getElem?_eq_some_iff.1 hk).1 hs).trans hk
theorem Turned.row {B e size n : Nat} {v : Value} {xs : List Value} (h : Turned S w w') (hr : w.ownsRow B e size v n xs) (hs : ∀ b, v.ownBlock = some b → ¬ S b) : w'.ownsRow B e size v n xs := by
  refine ⟨hr.1, hr.2.imp id ?_⟩
  rintro ⟨g, cap, cur, rfl, h2, h3, h4⟩
  exact ⟨g, cap, cur, rfl, h2, h.heap h3 (hs g rfl), h4⟩
end
theorem row_block {w : World} {B e size n : Nat} {v : Value} {xs : List Value} (hr : w.ownsRow B e size v n xs) {b : Nat} (hb : v.ownBlock = some b) : B ≤ b ∧ ∃ cur, w.heap[b]? = some (.cells cur e (0, 0)) := by
  rcases hr.2 with ⟨rfl, _⟩ | ⟨g, cap, cur, rfl, h2, h3, _⟩
  · cases hb
  · cases hb
    exact ⟨h2, cur, h3⟩
theorem row_slice {w : World} {B e size n : Nat} {v : Value} {xs : List Value} (hr : w.ownsRow B e size v n xs) : ∃ ao cap, v = .slice ao n cap := by
  rcases hr.2 with ⟨rfl, rfl⟩ | ⟨g, cap, cur, rfl, _⟩
  · exact ⟨_, _, rfl⟩
  · exact ⟨_, _, rfl⟩
theorem row_more {w : World} {B B' e size n : Nat} {v : Value} {xs : List Value} (hr : w.ownsRow B e size v n xs) (h : B' ≤ B) : w.ownsRow B' e size v n xs :=
  ⟨hr.1, hr.2.imp id fun ⟨g, cap, cur, h1, h2, h3⟩ => ⟨g, cap, cur, h1, Nat.le_trans h h2, h3⟩⟩

def FreshF (w : World) (v v' : Value) : Prop := ∀ b, v'.ownBlock = some b → v.ownBlock = some b ∨ w.heap.size ≤ b

section
variable {w w' : World} {v v' : Value}
theorem FreshF.refl (w : World) (v : Value) : FreshF w v v := fun _ h => .inl h
theorem FreshF.trans {x : Value} (f : FreshF w v v') (g : FreshF w' v' x) (hs : w.heap.size ≤ w'.heap.size) : FreshF w v x := fun b e => by
  rcases g b e with e | hb
  · exact f b e
  · exact .inr (by omega)
theorem FreshF.none (w : World) (v : Value) : FreshF w v (.slice none 0 0) := fun _ e => by cases e
end
def ApartS (S T : Nat → Prop) : Prop := ∀ b, S b → ¬ T b
theorem ApartS.symm {S T : Nat → Prop} (h : ApartS S T) : ApartS T S := fun b h1 h2 => h b h2 h1
theorem ApartS.turn {S S' T : Nat → Prop} {w : World} (h : ApartS S T) (hT : ∀ b, T b → b < w.heap.size) (hf : ∀ b, S' b → S b ∨ w.heap.size ≤ b) : ApartS S' T := fun b h1 h2 => by
  rcases hf b h1 with h1 | h1
  · exact h b h1 h2
  · have := hT b h2
    omega
theorem set_block {w : World} {N j : Nat} {cs : Array Value} {t : TypeId} {x : Value} (hN : w.heap[N]? = some (.cells cs t (0, 0))) : (w.setCell ⟨N, j, none⟩ x).heap[N]? = some (.cells (cs.setIfInBounds j x) t (0, 0)) := by
  have hlt : N < w.heap.size := (Array.getElem?_eq_some_iff.1 hN).1
  have hN' : w.heap[N] = .cells cs t (0, 0) := (Array.getElem?_eq_some_iff.1 hN).2
  simp only [World.setCell, Array.getElem?_modify, if_pos]
  rw [hN]
  rfl
end Go.Proofs.YtgpdplffljidbaaGreatDoor
namespace Go.Proofs.YtgpdplffljidbaaGreatDoor
open Go.RowKit

theorem turned_row9 {w : World} {g : Nat} {cs : Array Value} {S : Nat → Prop} (hS : S g) : Turned S w (w.setRow g cs) :=
  ⟨rfl, rfl, rfl, by simp [World.setRow], fun k _ hs => setRow_other w g k cs (fun e => hs (by rw [e]; exact hS))⟩
section
variable {P : Program} {ops : Array Oper} {rest : List Oper} {op : Oper} {a : Act} {w : World} {Q : Exit → Act → World → Prop}
theorem wpList_index_agg (hgd : op.guard = none) (ty : TypeId) (x y : Operand) (ho : op.op = .index ty x y) (cs : Array Value) (i : Nat) (hx : a.eval x = .agg cs) (hy : a.eval y = .int .i64 (i : Int))
    (n : Nat) (e : TypeId) (hu : P.underlying ty = some (.array n e)) (hi : i < n) (hz : (P.info? e).map (·.size) = some 1) (he : P.plainKey e = true) (v : Value) (hv : cs[i]? = some v)
    (h : wpList P ops Q rest (a.put op.dst v) w) : wpList P ops Q (op :: rest) a w := by
  refine wpList_plain hgd fun K hK => ?_
  have hr : (Instr.index ty (.agg cs) (.int .i64 (i : Int))).run P w = .ok v w := by
    have hsz : (sizeOf e).run P w = .ok 1 w := by
      cases hq : P.info? e with
      | none => simp [hq] at hz
      | some j =>
        have : j.size = 1 := by simpa [hq] using hz
        simp [sizeOf, typeInfo, hq, this]
    have hp := run_part_plain (P := P) (w := w) he (xs := cs) (off := i * 1) (by rw [Nat.mul_one]; exact hv)
    have h0 : (0 : Int) ≤ (i : Int) ∧ (i : Int) < (n : Int) := by omega
    simp only [Instr.index, asIntOf, Sem.run_bind, Sem.run_pure, Result.andThen_ok, run_underlying hu, if_pos h0, hsz, Int.toNat_natCast, hp]
  unfold Oper.wp execOp
  simp only [ho, hx, hy, Sem.run_bind, Sem.run_pure, Result.andThen_ok, hr]
  exact hK _ _ h
theorem wpList_store_row (hgd : op.guard = none) (ty : TypeId) (x y : Operand) (ho : op.op = .store ty x y)
    (g : Nat) (cells : Array Value) (hx : a.eval x = .pointer (some ⟨g, 0, none⟩)) (hy : a.eval y = .agg cells)
    (t : TypeId) (old : Array Value) (hg : w.heap[g]? = some (.cells old t (0, 0))) (hi : (P.info? ty).map (·.size) = some cells.size)
    (hold : old.size = cells.size) (h1 : cells.all (·.oneCell') = true)
    (h : wpList P ops Q rest (a.put op.dst undef) (w.setRow g cells)) : wpList P ops Q (op :: rest) a w :=
  wpList_plain hgd fun _ hK => wp_store_row ty x y ho g cells hx hy t old hg hi hold h1 (hK _ _ h)
end
end Go.Proofs.YtgpdplffljidbaaGreatDoor
namespace Go.Proofs.YtgpdplffljidbaaGreatDoor
open Go.RowKit Go.Maps

theorem add64_by (a : Addr) (x y : Int) (w : World) (hc : w.cell? a = some (.int .i64 x)) (hz : w.frozen? a = false) :
    Calls Tryz.prog 103 #[.pointer (some a), .int .i64 y] w fun e w' => e = .returned (.int .i64 (wrap64 (x + y))) ∧ w' = w.setCell a (.int .i64 (wrap64 (x + y))) := by
  have hadd := run_call_add (P := Tryz.prog) Tryz.func132 (by kernel_rfl) (by kernel_rfl) (by kernel_rfl) .i64 (by kernel_rfl) (y := y) (s := wrap64 (x + y)) hc hz (by simp [go_sem]; unfold wrap64; exact IntKind.wrap_i64 _)
  go_enter Tryz.func103, Tryz.ntmps103
  go_wp2
  go_ret
  exact ⟨rfl, rfl⟩

end Go.Proofs.YtgpdplffljidbaaGreatDoor
namespace Go.Proofs.YtgpdplffljidbaaGreatDoor
open Go.RowKit Go.Maps

theorem race_off (w : World) : (callFunc 172 #[]).run Tryz.prog w = .ok (.value (.tuple #[])) w := run_call_mark0 Tryz.func172 (by kernel_rfl) (by kernel_rfl) (by kernel_rfl) .disable (by kernel_rfl) w
theorem race_on (w : World) : (callFunc 174 #[]).run Tryz.prog w = .ok (.value (.tuple #[])) w := run_call_mark0 Tryz.func174 (by kernel_rfl) (by kernel_rfl) (by kernel_rfl) .enable (by kernel_rfl) w
theorem race_got (a : Addr) (w : World) : (callFunc 175 #[.pointer (some a)]).run Tryz.prog w = .ok (.value (.tuple #[])) w := run_call_marked Tryz.func175 (by kernel_rfl) (by kernel_rfl) (by kernel_rfl) .acquire (by kernel_rfl) a w
theorem race_merged (a : Addr) (w : World) : (callFunc 177 #[.pointer (some a)]).run Tryz.prog w = .ok (.value (.tuple #[])) w := run_call_marked Tryz.func177 (by kernel_rfl) (by kernel_rfl) (by kernel_rfl) .releaseMerge (by kernel_rfl) a w

theorem bool_no (a : Addr) (w : World) (hc : w.cell? a = some (.int .u32 0)) : Calls Tryz.prog 148 #[.pointer (some a)] w fun e w' => e = .returned (.bool false) ∧ w' = w := by
  have hl := run_call_load (P := Tryz.prog) Tryz.func161 (by kernel_rfl) (by kernel_rfl) (by kernel_rfl) .u32 (by kernel_rfl) hc
  go_enter Tryz.func148, Tryz.ntmps148
  go_wp2
  go_ret
  exact ⟨rfl, rfl⟩
theorem bool_yes (a : Addr) (w : World) (hc : w.cell? a = some (.int .u32 1)) : Calls Tryz.prog 148 #[.pointer (some a)] w fun e w' => e = .returned (.bool true) ∧ w' = w := by
  have hl := run_call_load (P := Tryz.prog) Tryz.func161 (by kernel_rfl) (by kernel_rfl) (by kernel_rfl) .u32 (by kernel_rfl) hc
  go_enter Tryz.func148, Tryz.ntmps148
  go_wp2
  go_ret
  exact ⟨rfl, rfl⟩

theorem store_later (a : Addr) (x : Value) (u : FrameMode) (w : World) (hc : w.cell? a = some x) (hz : w.frozen? a = false) :
    CallsD Tryz.prog 164 #[.pointer (some a), .bool true] u w fun e u' w' => u' = u ∧ (e = .returned (.tuple #[]) ∧ w' = w.drew.setCell a (.int .u32 1)) := by
  have hc' : w.drew.cell? a = some x := by go_simp
  have hz' : w.drew.frozen? a = false := by go_simp
  have hst := run_call_store (P := Tryz.prog) Tryz.func169 (by kernel_rfl) (by kernel_rfl) (by kernel_rfl) (by kernel_rfl) (k := .u32) (y := 1) hc' hz'
  go_enter_d Tryz.func164, Tryz.ntmps164
  go_wp2
  go_region_calls
  all_goals (go_end0; exact ⟨rfl, rfl⟩)

set_option maxRecDepth 100000 in
set_option maxHeartbeats 1600000 in
theorem unlock_later (a : Addr) (u : FrameMode) (w : World) (hc : w.cell? a = some (.int .i32 1)) (hz : w.frozen? a = false) :
    CallsD Tryz.prog 163 #[.pointer (some a)] u w fun e u' w' => u' = u ∧ (e = .returned (.tuple #[]) ∧ w' = w.setCell a (.int .i32 0)) := by
  have h1 := race_off
  have h2 := race_on
  have h3 := race_merged
  have h4 := run_call_add (P := Tryz.prog) Tryz.func178 (by kernel_rfl) (by kernel_rfl) (by kernel_rfl) .i32 (by kernel_rfl) (y := -1) (s := 0) hc hz (by simp [go_sem]; rfl)
  have h5 := run_convert_to_unsafe (P := Tryz.prog) (src := 258) (dst := 225) Tryz.underlying258 Tryz.underlying225 (by kernel_rfl) hc
  go_enter_d Tryz.func163, Tryz.ntmps163
  go_wp2
  go_end0
  go_wp2
  go_end0
  exact ⟨rfl, rfl⟩

set_option maxRecDepth 100000 in
set_option maxHeartbeats 1600000 in
theorem lock_any (a : Addr) (w : World) (hc : w.cell? a = some (.int .i32 0)) (hz : w.frozen? a = false) :
    Calls Tryz.prog 162 #[.pointer (some a)] w fun e w' => e = .returned (.tuple #[]) ∧ w' = w.setCell a (.int .i32 1) := by
  have h1 := race_off
  have h2 := race_on
  have h3 := race_got
  have h4 := run_call_cas_hit (P := Tryz.prog) Tryz.func173 (by kernel_rfl) (by kernel_rfl) (by kernel_rfl) .i32 (by kernel_rfl) (y := 1) hc hz
  have hc' : (w.setCell a (.int .i32 1)).cell? a = some (.int .i32 1) := World.cell?_setCell_same w a _ hc
  have h5 := run_convert_to_unsafe (P := Tryz.prog) (src := 258) (dst := 225) Tryz.underlying258 Tryz.underlying225 (by kernel_rfl) hc'
  go_enter Tryz.func162, Tryz.ntmps162
  go_wp2
  first | go_end0 | (simp only [Exit.inBlock, Exit.then]; refine bodyPost_ret (results_none rfl _ _ _) rfl ?_) | refine bodyPost_ret (results_none rfl _ _ _) rfl ?_
  go_wp2
  go_end0
  exact ⟨rfl, rfl⟩

end Go.Proofs.YtgpdplffljidbaaGreatDoor
namespace Go.Proofs.YtgpdplffljidbaaGreatDoor

def fillD (x : List UInt8) : List UInt8 := x ++ List.replicate (64 - x.length) 0
theorem fill_len {x : List UInt8} (h : x.length ≤ 64) : (fillD x).length = 64 := by
  unfold fillD
  rw [List.length_append, List.length_replicate]
  omega
def okS (ss : List (List UInt8)) : Prop := ∀ s ∈ ss, s.length = 64
theorem okS.get {ss : List (List UInt8)} (h : okS ss) {i : Nat} (hi : i < ss.length) : ss[i].length = 64 := h _ (List.getElem_mem hi)
theorem okS.set {ss : List (List UInt8)} (h : okS ss) (i : Nat) {x : List UInt8} (hx : x.length = 64) : okS (ss.set i x) := fun s hs => by
  rcases List.mem_or_eq_of_mem_set hs with h1 | h1
  · exact h s h1
  · rw [h1]
    exact hx
theorem flat_len : ∀ {ss : List (List UInt8)}, okS ss → ss.flatten.length = 64 * ss.length
  | [], _ => rfl
  | s :: t, h => by
    rw [List.flatten_cons, List.length_append, flat_len (ss := t) (fun x hx => h x (List.mem_cons_of_mem _ hx)), h s (List.mem_cons_self ..), List.length_cons]
    omega
theorem flat_get : ∀ {ss : List (List UInt8)}, okS ss → ∀ {i : Nat} (hi : i < ss.length), (ss.flatten.drop (64 * i)).take 64 = ss[i]
  | s :: t, h, 0, _ => by
    have hs : s.length = 64 := h s (List.mem_cons_self ..)
    rw [List.flatten_cons, Nat.mul_zero, List.drop_zero, List.take_append_of_le_length (by omega), List.take_of_length_le (by omega)]
    rfl
  | s :: t, h, i + 1, hi => by
    have hs : s.length = 64 := h s (List.mem_cons_self ..)
    have ih := flat_get (ss := t) (fun x hx => h x (List.mem_cons_of_mem _ hx)) (i := i) (by simpa using hi)
    rw [List.flatten_cons, List.drop_append, List.drop_eq_nil_of_le (by omega), List.nil_append, show 64 * (i + 1) - s.length = 64 * i by omega, ih]
    rfl
theorem flat_part : ∀ {ss : List (List UInt8)}, okS ss → ∀ {i : Nat} (hi : i < ss.length) (y : List UInt8), y.length ≤ 64 →
    ss.flatten.take (64 * i) ++ (y ++ ss.flatten.drop (64 * i + y.length)) = (ss.set i (y ++ ss[i].drop y.length)).flatten
  | s :: t, h, 0, _, y, hy => by
    have hs : s.length = 64 := h s (List.mem_cons_self ..)
    rw [List.set_cons_zero, List.flatten_cons, List.flatten_cons, Nat.mul_zero, List.take_zero, List.nil_append, Nat.zero_add, List.drop_append_of_le_length (by omega), List.append_assoc]
    rfl
  | s :: t, h, i + 1, hi, y, hy => by
    have hs : s.length = 64 := h s (List.mem_cons_self ..)
    have hi2 : i < t.length := by simpa using hi
    have ih := flat_part (ss := t) (fun x hx => h x (List.mem_cons_of_mem _ hx)) hi2 y hy
    rw [List.set_cons_succ, List.flatten_cons, List.flatten_cons, show (s :: t)[i + 1] = t[i] from rfl, ← ih, List.take_append, List.take_of_length_le (by omega), List.drop_append, List.drop_eq_nil_of_le (show s.length ≤ 64 * (i + 1) + y.length by omega),
      show 64 * (i + 1) - s.length = 64 * i by omega, show 64 * (i + 1) + y.length - s.length = 64 * i + y.length by omega, List.nil_append, List.append_assoc]

structure Dk where
  ss : List (List UInt8)
  ca : Int
  ct : Int
  down : Bool
  wr : Int
  ah : Int
def tornN (ct : Int) : Nat := (min (max ct 0) 64).toNat
theorem torn_le (ct : Int) : tornN ct ≤ 64 := by unfold tornN; omega
def checkD (d : Dk) (p : Int) : Int := if d.down = true then 6 else if p < 0 ∨ (d.ss.length : Int) ≤ p then 1 else 0
def codeD (d : Dk) : Int := if d.wr + 1 - d.ah = d.ca then 6 else 0
def wroteD (d : Dk) (i : Nat) (x : List UInt8) : Dk :=
  if d.wr + 1 - d.ah = d.ca then ⟨d.ss.set i ((fillD x).take (tornN d.ct) ++ (d.ss.getD i []).drop (tornN d.ct)), 0, 0, true, d.wr + 1, d.ah⟩
  else ⟨d.ss.set i (fillD x), d.ca, d.ct, d.down, d.wr + 1, d.ah⟩
def writeD (d : Dk) (p : Int) (x : List UInt8) : Dk := if checkD d p = 0 ∧ x.length ≤ 64 then wroteD d p.toNat x else d
def sayD (d : Dk) (p : Int) (x : List UInt8) : Int := if checkD d p = 0 then (if x.length ≤ 64 then codeD d else 3) else checkD d p
def newD (n : Nat) : Dk := ⟨List.replicate n (List.replicate 64 0), 0, 0, false, 0, 0⟩
structure Dk.ok (d : Dk) : Prop where
  ss : okS d.ss
  ah : 0 ≤ d.ah
  wr : d.ah ≤ d.wr
theorem new_ok (n : Nat) : (newD n).ok := ⟨fun s hs => by
  have := List.eq_of_mem_replicate hs
  rw [this, List.length_replicate], Int.le_refl _, Int.le_refl _⟩
theorem check_zero {d : Dk} {p : Int} : checkD d p = 0 ↔ d.down = false ∧ 0 ≤ p ∧ p < d.ss.length := by
  unfold checkD
  cases d.down with
  | true => simp
  | false =>
    rw [if_neg (by simp)]
    split
    · simp
      omega
    · simp
      omega
theorem wrote_wr (d : Dk) (i : Nat) (x : List UInt8) : (wroteD d i x).wr = d.wr + 1 := by
  unfold wroteD
  split <;> rfl
theorem write_wr (d : Dk) (p : Int) (x : List UInt8) : (writeD d p x).wr = d.wr ∨ (writeD d p x).wr = d.wr + 1 := by
  unfold writeD
  split
  · exact .inr (wrote_wr ..)
  · exact .inl rfl
theorem write_miss {d : Dk} {p : Int} {x : List UInt8} (h : checkD d p = 0) (hx : x.length ≤ 64) (hc : ¬ d.wr + 1 - d.ah = d.ca) :
    sayD d p x = 0 ∧ writeD d p x = ⟨d.ss.set p.toNat (fillD x), d.ca, d.ct, d.down, d.wr + 1, d.ah⟩ := by
  unfold sayD writeD codeD wroteD
  rw [if_pos h, if_pos hx, if_neg hc, if_pos ⟨h, hx⟩, if_neg hc]
  exact ⟨rfl, rfl⟩
end Go.Proofs.YtgpdplffljidbaaGreatDoor
namespace Go.Proofs.YtgpdplffljidbaaGreatDoor
open Go.RowKit Go.Maps

structure DiskAt (w : World) (B N g : Nat) (d : Dk) : Prop where
  bN : B ≤ N
  bg : B ≤ g
  ne : N ≠ g
  ok : d.ok
  few : d.ss.length ≤ 4096
  mem : ∃ cap rest, 64 * d.ss.length ≤ cap ∧ cap ≤ maxLen ∧ w.heap[N]? = some (.cells #[.slice (some ⟨g, 0, none⟩) (64 * d.ss.length) cap, .int .i64 d.ca, .int .i64 d.ct, .bool d.down, .int .i64 d.wr, .int .i64 d.ah] 139 (0, 0)) ∧
    w.heap[g]? = some (.cells (Lib.byteCells d.ss.flatten ++ rest).toArray 5 (0, 0))
def mineD (N g : Nat) (b : Nat) : Prop := b = N ∨ b = g

section
variable {w w' : World} {B N g N' g' : Nat} {d : Dk}
theorem DiskAt.ltN (h : DiskAt w B N g d) : N < w.heap.size := by
  obtain ⟨cap, rest, _, _, h1, h2⟩ := h.mem
  exact (Array.getElem?_eq_some_iff.1 h1).1
theorem DiskAt.ltg (h : DiskAt w B N g d) : g < w.heap.size := by
  obtain ⟨cap, rest, _, _, h1, h2⟩ := h.mem
  exact (Array.getElem?_eq_some_iff.1 h2).1
theorem DiskAt.blocks (h : DiskAt w B N g d) : ∀ b, mineD N g b → B ≤ b ∧ b < w.heap.size := by
  rintro b (rfl | rfl)
  · exact ⟨h.bN, h.ltN⟩
  · exact ⟨h.bg, h.ltg⟩
theorem DiskAt.keep {S : Nat → Prop} (h : DiskAt w B N g d) (t : Turned S w w') (hs : ∀ b, mineD N g b → ¬ S b) : DiskAt w' B N g d := by
  obtain ⟨cap, rest, h1, h2, h3, h4⟩ := h.mem
  exact ⟨h.bN, h.bg, h.ne, h.ok, h.few, cap, rest, h1, h2, t.heap h3 (hs N (.inl rfl)), t.heap h4 (hs g (.inr rfl))⟩
theorem DiskAt.below (h : DiskAt w B N g d) (hb : Below w.heap.size w w') : DiskAt w' B N g d := h.keep (S := fun _ => False) (Turned.of_below hb (Nat.le_refl _)) (fun _ _ h => h)
theorem DiskAt.alloc (h : DiskAt w B N g d) (o : Obj) : DiskAt (w.alloc o) B N g d := h.below ((Below.refl _ w).alloc (Nat.le_refl _) o)
theorem DiskAt.drew (h : DiskAt w B N g d) : DiskAt w.drew B N g d := h.keep (S := fun _ => False) Turned.drew (fun _ _ h => h)
theorem DiskAt.cells (h : DiskAt w B N g d) : ∃ cap, 64 * d.ss.length ≤ cap ∧ cap ≤ maxLen ∧ w.cell? ⟨N, 0, none⟩ = some (.slice (some ⟨g, 0, none⟩) (64 * d.ss.length) cap) ∧ w.cell? ⟨N, 1, none⟩ = some (.int .i64 d.ca) ∧ w.cell? ⟨N, 2, none⟩ = some (.int .i64 d.ct) ∧
    w.cell? ⟨N, 3, none⟩ = some (.bool d.down) ∧ w.cell? ⟨N, 4, none⟩ = some (.int .i64 d.wr) ∧ w.cell? ⟨N, 5, none⟩ = some (.int .i64 d.ah) ∧ ∀ j, w.frozen? ⟨N, j, none⟩ = false := by
  obtain ⟨cap, rest, h1, h2, h3, _⟩ := h.mem
  refine ⟨cap, h1, h2, ?_, ?_, ?_, ?_, ?_, ?_, fun j => Lib.frozen_of_heap h3 j⟩ <;> rw [Lib.cell_of_heap h3] <;> rfl
end

theorem quo_64 (n : Nat) : ((64 * n : Nat) : Int).tdiv 64 = (n : Int) := by
  rw [Int.tdiv_eq_ediv_of_nonneg (by omega)]
  omega

set_option maxRecDepth 100000 in
set_option maxHeartbeats 1000000 in
theorem size_any (B N g : Nat) (d : Dk) (w : World) (h : DiskAt w B N g d) :
    Calls Tryz.prog 71 #[.pointer (some ⟨N, 0, none⟩)] w fun e w' => e = .returned (.int .i64 (d.ss.length : Int)) ∧ w' = w := by
  obtain ⟨cap, h1, h2, c0, _⟩ := h.cells
  have hf := h.few
  obtain ⟨n, hn⟩ : ∃ n, d.ss.length = n := ⟨_, rfl⟩
  rw [hn] at c0 h1 hf ⊢
  have hq := quo_64 n
  obtain ⟨L, hL⟩ : ∃ L, 64 * n = L := ⟨_, rfl⟩
  rw [hL] at hq c0 h1
  clear h hn
  go_enter Tryz.func71, Tryz.ntmps71
  go_wp2
  go_ret
  exact ⟨rfl, rfl⟩

set_option maxRecDepth 100000 in
set_option maxHeartbeats 1000000 in
theorem check_any (B N g : Nat) (d : Dk) (w : World) (h : DiskAt w B N g d) (p : Int) :
    Calls Tryz.prog 102 #[.pointer (some ⟨N, 0, none⟩), .int .i64 p] w fun e w' => e = .returned (.int .i64 (checkD d p)) ∧ w' = w := by
  obtain ⟨cap, h1, h2, _, _, _, c3, _⟩ := h.cells
  have hs := size_any B N g d w h
  unfold checkD
  obtain ⟨n, hn⟩ : ∃ n, d.ss.length = n := ⟨_, rfl⟩
  rw [hn] at hs ⊢
  obtain ⟨x, hx⟩ : ∃ x, d.down = x := ⟨_, rfl⟩
  rw [hx] at c3 ⊢
  clear h hn hx h1
  cases x with
  | true =>
    go_enter Tryz.func102, Tryz.ntmps102
    go_wp2
    go_ret
    exact ⟨rfl, rfl⟩
  | false =>
    by_cases hp : p < 0
    · rw [if_pos (Or.inl hp)]
      go_enter Tryz.func102, Tryz.ntmps102
      go_wp2
      go_ret
      exact ⟨rfl, rfl⟩
    · by_cases hq : (n : Int) ≤ p
      · rw [if_pos (Or.inr hq)]
        go_enter Tryz.func102, Tryz.ntmps102
        go_wp2_with (go_at_call 71; refine hs.mono ?_; rintro e w' ⟨rfl, rfl⟩)
        go_ret
        exact ⟨rfl, rfl⟩
      · rw [if_neg (show ¬ (false = true) by simp), if_neg (show ¬ (p < 0 ∨ (n : Int) ≤ p) by omega)]
        go_enter Tryz.func102, Tryz.ntmps102
        go_wp2_with (go_at_call 71; refine hs.mono ?_; rintro e w' ⟨rfl, rfl⟩)
        go_ret
        exact ⟨rfl, rfl⟩

set_option maxRecDepth 100000 in
set_option maxHeartbeats 1000000 in
theorem cut_out_any (B N g : Nat) (d : Dk) (w : World) (h : DiskAt w B N g d) (i : Nat) (hi : i < d.ss.length) :
    Calls Tryz.prog 104 #[.pointer (some ⟨N, 0, none⟩), .int .i64 (i : Int)] w fun e w' => e = .returned (.slice (some ⟨g, 64 * i, none⟩) 64 64) ∧ w' = w := by
  obtain ⟨cap, h1, h2, c0, _⟩ := h.cells
  have hf := h.few
  obtain ⟨n, hn⟩ : ∃ n, d.ss.length = n := ⟨_, rfl⟩
  rw [hn] at c0 h1 hf hi
  have k1 : (i : Int) * 64 + 64 ≤ ((64 * n : Nat) : Int) := by omega
  obtain ⟨L, hL⟩ : ∃ L, 64 * n = L := ⟨_, rfl⟩
  rw [hL] at k1 c0 h1
  unfold maxLen at h2
  clear h hn
  go_enter Tryz.func104, Tryz.ntmps104
  go_wp2
  go_ret
  refine ⟨?_, rfl⟩
  rw [show i * 64 + 64 - i * 64 = 64 by omega, show i * 64 = 64 * i by omega]
  rfl
end Go.Proofs.YtgpdplffljidbaaGreatDoor
