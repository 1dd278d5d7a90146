/-
  Texts of this proof, put together: SecB, SecC, SecW.
-/
import Derived.Test.YtgpdplffljidbaaGreatDoorZ03
import Derived.Laws.CopyOwn
import Derived.Lib.BufferWrite
import Derived.OwnWalk
import Derived.Laws.OwnMore
import Derived.Lib.SliceRun
import Derived.Deep.RegionHeld3
import Derived.StillTailTactics
import Derived.Deep.Cut
namespace Go.Proofs.YtgpdplffljidbaaGreatDoor
open Go.RowKit Go.Maps

theorem DiskAt.set {w : World} {B N g : Nat} {d d' : Dk} (h : DiskAt w B N g d) (j : Nat) (x : Value) (hss : d'.ss = d.ss) (hok : d'.ok)
    (hc : ∀ v : Value, (#[v, .int .i64 d.ca, .int .i64 d.ct, .bool d.down, .int .i64 d.wr, .int .i64 d.ah] : Array Value).setIfInBounds j x = #[v, .int .i64 d'.ca, .int .i64 d'.ct, .bool d'.down, .int .i64 d'.wr, .int .i64 d'.ah]) :
    DiskAt (w.setCell ⟨N, j, none⟩ x) B N g d' ∧ Turned (mineD N g) w (w.setCell ⟨N, j, none⟩ x) := by
  obtain ⟨cap, rest, h1, h2, h3, h4⟩ := h.mem
  refine ⟨⟨h.bN, h.bg, h.ne, hok, by rw [hss]; exact h.few, cap, rest, by rw [hss]; exact h1, h2, ?_, ?_⟩, Turned.set (.inl rfl)⟩
  · rw [set_block h3, hc, hss]
  · rw [hss]
    exact (Turned.set (S := fun b => b = N) (j := j) (N := N) (v := x) rfl).heap h4 (fun e => h.ne e.symm)

set_option maxRecDepth 100000 in
theorem conv_text {w : World} {g o : Nat} {l : List UInt8} {cap : Nat} {pre post : List Value} (h : w.heap[g]? = some (.cells (pre ++ Lib.byteCells l ++ post).toArray 5 (0, 0))) (ho : pre.length = o) :
    (convert 65 9 (.slice (some ⟨g, o, none⟩) l.length cap)).run Tryz.prog w = .ok (.string ⟨l.toArray⟩) w := by
  have := run_convert_bytes_arg (P := Tryz.prog) w 65 5 Tryz.underlying65 Tryz.underlying5 g o l.length cap (l.map fun b => (b.toNat : Int)) (by rw [List.length_map]) (fun i hi => by
      rw [Lib.cell_of_heap h]
      unfold Lib.byteCells
      simp only [List.getElem?_toArray]
      rw [List.append_assoc, List.getElem?_append_right (by omega), List.getElem?_append_left (by simp; omega), List.getElem?_map, show o + i - pre.length = i by omega, List.getElem?_eq_getElem hi]
      simp [List.getD, List.getElem?_map, List.getElem?_eq_getElem hi]) 9 Tryz.underlying9
  rw [this]
  congr 2
  unfold strOfNums
  congr 1
  simp [List.map_map, Function.comp_def]
theorem DiskAt.text {w : World} {B N g : Nat} {d : Dk} (h : DiskAt w B N g d) {i : Nat} (hi : i < d.ss.length) : (convert 65 9 (.slice (some ⟨g, 64 * i, none⟩) 64 64)).run Tryz.prog w = .ok (.string ⟨d.ss[i].toArray⟩) w := by
  obtain ⟨cap, rest, h1, h2, h3, h4⟩ := h.mem
  have hl := h.ok.ss.get hi
  have hfl := flat_len h.ok.ss
  have hsplit : d.ss.flatten = d.ss.flatten.take (64 * i) ++ d.ss[i] ++ d.ss.flatten.drop (64 * i + 64) := by
    rw [← flat_get h.ok.ss hi, List.append_assoc, ← List.drop_drop, List.take_append_drop, List.take_append_drop]
  have he : Lib.byteCells d.ss.flatten ++ rest = Lib.byteCells (d.ss.flatten.take (64 * i)) ++ Lib.byteCells d.ss[i] ++ (Lib.byteCells (d.ss.flatten.drop (64 * i + 64)) ++ rest) := by
    rw [← List.append_assoc, ← Lib.byteCells_append, ← Lib.byteCells_append, ← hsplit]
  rw [he] at h4
  have := conv_text (cap := 64) (o := 64 * i) h4 (by rw [Lib.byteCells_length, List.length_take]; omega)
  rw [hl] at this
  exact this

set_option maxRecDepth 100000 in
set_option maxHeartbeats 1000000 in
theorem sread_any (B N g : Nat) (d : Dk) (w : World) (h : DiskAt w B N g d) (p : Int) :
    Calls Tryz.prog 98 #[.pointer (some ⟨N, 0, none⟩), .int .i64 p] w fun e w' => e = .returned (.tuple #[.string ⟨(if checkD d p = 0 then d.ss.getD p.toNat [] else []).toArray⟩, .int .i64 (checkD d p)]) ∧ w' = w := by
  have hc := check_any B N g d w h p
  by_cases h0 : checkD d p = 0
  · rw [if_pos h0]
    rw [h0] at hc ⊢
    obtain ⟨_, h1, h2⟩ := check_zero.1 h0
    obtain ⟨i, rfl⟩ : ∃ i : Nat, p = i := ⟨p.toNat, by omega⟩
    have hi : i < d.ss.length := by omega
    have ht := h.text hi
    have hcut := cut_out_any B N g d w h i hi
    rw [Int.toNat_natCast, List.getD_eq_getElem?_getD, List.getElem?_eq_getElem hi, Option.getD_some]
    obtain ⟨X, hX⟩ : ∃ X, d.ss[i].toArray = X := ⟨_, rfl⟩
    rw [hX] at ht ⊢
    obtain ⟨o, ho⟩ : ∃ o, 64 * i = o := ⟨_, rfl⟩
    rw [ho] at ht hcut
    clear h h0 h1 h2 hX ho hi
    go_enter Tryz.func98, Tryz.ntmps98
    go_wp2_with (first | (go_at_call 102; refine hc.mono ?_; rintro e w' ⟨rfl, rfl⟩) | (go_at_call 104; refine hcut.mono ?_; rintro e w' ⟨rfl, rfl⟩))
    go_ret2
    exact ⟨rfl, rfl⟩
  · rw [if_neg h0]
    obtain ⟨c, hcc⟩ : ∃ c, checkD d p = c := ⟨_, rfl⟩
    rw [hcc] at hc h0 ⊢
    have hb : (c == 0) = false := by rw [beq_eq_false_iff_ne]; exact h0
    clear h h0 hcc
    go_enter Tryz.func98, Tryz.ntmps98
    go_wp2_with (go_at_call 102; refine hc.mono ?_; rintro e w' ⟨rfl, rfl⟩)
    go_ret2
    exact ⟨rfl, rfl⟩

end Go.Proofs.YtgpdplffljidbaaGreatDoor
namespace Go.Proofs.YtgpdplffljidbaaGreatDoor
open Go.RowKit Go.Maps

theorem row_bytes {w : World} {B g n cap : Nat} {l : List UInt8} (h : w.ownsRow B 5 1 (.slice (some ⟨g, 0, none⟩) n cap) n (Lib.byteCells l)) :
    B ≤ g ∧ n ≤ cap ∧ cap ≤ maxLen ∧ l.length = n ∧ ∃ rest, w.heap[g]? = some (.cells (Lib.byteCells l ++ rest).toArray 5 (0, 0)) := by
  have hl : l.length = n := by
    have := h.1
    rw [Lib.byteCells_length] at this
    omega
  rcases h.2 with ⟨e, _⟩ | ⟨g', cap', cur, e, hb, hg, hnc, hcm, hcs, ht⟩
  · cases e
  · simp only [Value.slice.injEq, Option.some.injEq, Addr.mk.injEq, true_and, and_true] at e
    obtain ⟨rfl, rfl⟩ := e
    refine ⟨hb, hnc, hcm, hl, cur.toList.drop (n * 1), ?_⟩
    rw [← ht, List.take_append_drop, Array.toArray_toList]
    exact hg
theorem zero_cells (n : Nat) : (madeCells (Value.int .u8 0).cells (n * 1)).toList = Lib.byteCells (List.replicate n 0) := by
  rw [show (Value.int .u8 0).cells = #[.int .u8 0] from rfl, toList_madeCells_one, Nat.mul_one, Lib.byteCells, List.map_replicate]
  rfl
theorem flat_zero : ∀ n : Nat, (List.replicate n (List.replicate 64 (0 : UInt8))).flatten = List.replicate (64 * n) 0
  | 0 => rfl
  | n + 1 => by
    rw [List.replicate_succ, List.flatten_cons, flat_zero n, List.replicate_append_replicate]
    congr 1
    omega

set_option maxRecDepth 100000 in
set_option maxHeartbeats 2000000 in
theorem snew_any (B : Nat) (w : World) (hB : B ≤ w.heap.size) (n : Nat) (h1 : 1 ≤ n) (h2 : n ≤ 4096) :
    Calls Tryz.prog 27 #[.int .i64 (n : Int)] w fun e w' => ∃ N g, e = .returned (.tuple #[.pointer (some ⟨N, 0, none⟩), .int .i64 0]) ∧ DiskAt w' B N g (newD n) ∧ Below w.heap.size w w' ∧ ∀ b, mineD N g b → w.heap.size ≤ b := by
  obtain ⟨i0, hi, hz0, hz1, hz2⟩ := info_parts infoB4
  have hzero := zero_cells (64 * n)
  rw [← flat_zero n] at hzero
  have Hz := Lib.hid hzero
  clear hzero
  go_enter Tryz.func27, Tryz.ntmps27
  go_wp2_with (at_make; refine wpList_make_full _ rfl _ _ 65 rfl w.heap.size 5 i0 (.int .u8 0) 1 Tryz.underlying65 hi hz0 hz1 .i64 .i64 _ _ (64 * n) rfl rfl (by omega) (by omega) (by rw [hz2]; omega) (by unfold maxLen; omega) (Nat.le_refl _) ?_; intro w1 hown hgrow)
  rw [Hz.out] at hown
  obtain ⟨_, hcap, hmax, hlen, rest, hg⟩ := row_bytes hown
  have hsz : w.heap.size < w1.heap.size := (Array.getElem?_eq_some_iff.1 hg).1
  have hb1 : Below w.heap.size w w1 := ⟨hgrow.os, hgrow.tape, hgrow.output, hgrow.size, fun k hk => hgrow.block k hk (by simp)⟩
  have hfin : DiskAt (w1.alloc (.cells #[.slice (some ⟨w.heap.size, 0, none⟩) (64 * n) (64 * n), .int .i64 0, .int .i64 0, .bool false, .int .i64 0, .int .i64 0] 139)) B w1.heap.size w.heap.size (newD n) := by
    refine ⟨by omega, hB, by omega, new_ok n, by show (List.replicate n _).length ≤ _; rw [List.length_replicate]; exact h2, 64 * n, rest, ?_, hmax, ?_, ?_⟩
    · show 64 * (List.replicate n _).length ≤ _
      rw [List.length_replicate]
      exact Nat.le_refl _
    · rw [heap_alloc_new]
      show _ = some (Obj.cells #[.slice _ (64 * (List.replicate n _).length) _, _, _, _, _, _] _ _)
      rw [List.length_replicate]
      rfl
    · rw [heap_alloc_old w1 _ hsz]
      exact hg
  have H := Lib.hid (And.intro hfin (hb1.alloc (Nat.le_of_lt hsz) (.cells #[.slice (some ⟨w.heap.size, 0, none⟩) (64 * n) (64 * n), .int .i64 0, .int .i64 0, .bool false, .int .i64 0, .int .i64 0] 139)))
  clear hfin hb1 hg hown hgrow
  go_wp2
  go_ret2
  refine ⟨w1.heap.size, w.heap.size, rfl, H.out.1, H.out.2, ?_⟩
  rintro b (rfl | rfl) <;> omega

end Go.Proofs.YtgpdplffljidbaaGreatDoor
namespace Go.Proofs.YtgpdplffljidbaaGreatDoor
open Go.RowKit Go.Maps

theorem turned_row {w : World} {g : Nat} {cs : Array Value} {S : Nat → Prop} (hS : S g) : Turned S w (w.setRow g cs) :=
  ⟨rfl, rfl, rfl, by simp [World.setRow], fun k _ hs => setRow_other w g k cs (fun e => hs (by rw [e]; exact hS))⟩
theorem wpList_copy_text {P : Program} {w : World} {ops : Array Oper} {rest : List Oper} {o : Oper} {a : Act} {Q : Exit → Act → World → Prop} (hgd : o.guard = none) (d s : Operand) (dT sT : TypeId)
    (ho : o.op = .call { callee := .builtin .copy, args := #[d, s], argTypes := #[dT, sT] }) (elem : TypeId) (hu : P.underlying dT = some (.slice elem)) (hsz : (P.info? elem).map (·.size) = some 1)
    (g off dLen dCap : Nat) (x : ByteArray) (hd : a.eval d = .slice (some ⟨g, off, none⟩) dLen dCap) (hs : a.eval s = .string x)
    (cur : Array Value) (t : TypeId) (hg : w.heap[g]? = some (.cells cur t (0, 0))) (hle : x.size ≤ dLen) (hfit : off + x.size ≤ cur.size)
    (row : List Value) (hrow : cur.toList.take off ++ Lib.byteCells x.data.toList ++ cur.toList.drop (off + x.size) = row)
    (h : ∀ w', w'.heap[g]? = some (.cells row.toArray t (0, 0)) → Turned (fun b => b = g) w w' → wpList P ops Q rest (a.put o.dst (goInt x.size)) w') : wpList P ops Q (o :: rest) a w := by
  subst hrow
  have h := h _ (setRow_heap w g cur _ t _ hg) (turned_row rfl)
  refine wpList_plain hgd fun K hK => ?_
  have hrun := Lib.run_copy_row_string (P := P) w dT sT o.type elem g off dLen dCap x cur t hu hsz hg hle hfit
  rw [List.append_assoc] at hrun h
  unfold Oper.wp
  simp [execOp, ho, resolve, invoke, builtin, hd, hs, hrun, Result.andThen]
  exact hK _ _ h
theorem wpList_copy_row {P : Program} {w : World} {ops : Array Oper} {rest : List Oper} {o : Oper} {a : Act} {Q : Exit → Act → World → Prop} (hgd : o.guard = none) (d s : Operand) (dT sT : TypeId)
    (ho : o.op = .call { callee := .builtin .copy, args := #[d, s], argTypes := #[dT, sT] }) (elem : TypeId) (hu : P.underlying dT = some (.slice elem)) (hsz : (P.info? elem).map (·.size) = some 1)
    (g off dLen dCap : Nat) (ad : Addr) (sLen sCap : Nat) (hd : a.eval d = .slice (some ⟨g, off, none⟩) dLen dCap) (hs : a.eval s = .slice (some ad) sLen sCap)
    (cur : Array Value) (t : TypeId) (hg : w.heap[g]? = some (.cells cur t (0, 0))) (cs : List Value) (hn : cs.length = Nat.min sLen dLen)
    (hsrc : ∀ j v, cs[j]? = some v → w.cell? (ad.add j) = some v) (hfit : off + cs.length ≤ cur.size) (h1 : ∀ v ∈ cs, v.oneCell' = true)
    (h : ∀ w', Hid (w' = w.setRow g (cur.toList.take off ++ (cs ++ cur.toList.drop (off + cs.length))).toArray) → wpList P ops Q rest (a.put o.dst (goInt cs.length)) w') : wpList P ops Q (o :: rest) a w :=
  wpList_copy_own hgd d s dT sT ho elem hu hsz g off dLen dCap ad sLen sCap hd hs cur t hg cs hn hsrc hfit h1 (h _ (Lib.hid rfl))
theorem DiskAt.lay {w : World} {B N g : Nat} {d : Dk} (h : DiskAt w B N g d) {i : Nat} (hi : i < d.ss.length) (y : List UInt8) (hy : y.length ≤ 64) :
    ∃ rest, w.heap[g]? = some (.cells (Lib.byteCells d.ss.flatten ++ rest).toArray 5 (0, 0)) ∧ 64 * i + y.length ≤ (Lib.byteCells d.ss.flatten ++ rest).toArray.size ∧
      DiskAt (w.setRow g ((Lib.byteCells d.ss.flatten ++ rest).toArray.toList.take (64 * i) ++ (Lib.byteCells y ++ (Lib.byteCells d.ss.flatten ++ rest).toArray.toList.drop (64 * i + (Lib.byteCells y).length))).toArray) B N g ⟨d.ss.set i (y ++ d.ss[i].drop y.length), d.ca, d.ct, d.down, d.wr, d.ah⟩ := by
  obtain ⟨cap, rest, h1, h2, h3, h4⟩ := h.mem
  have hfl := flat_len h.ok.ss
  have hbl : (Lib.byteCells d.ss.flatten).length = 64 * d.ss.length := by rw [Lib.byteCells_length, hfl]
  have hnew : (y ++ d.ss[i].drop y.length).length = 64 := by
    have := h.ok.ss.get hi
    rw [List.length_append, List.length_drop]
    omega
  refine ⟨rest, h4, by simp only [List.size_toArray, List.length_append]; omega, h.bN, h.bg, h.ne, ⟨h.ok.ss.set i hnew, h.ok.ah, h.ok.wr⟩, by show (d.ss.set i _).length ≤ _; rw [List.length_set]; exact h.few, cap, rest, by show 64 * (d.ss.set i _).length ≤ _; rw [List.length_set]; exact h1, h2, ?_, ?_⟩
  · rw [setRow_other w g N _ h.ne, h3]
    show _ = some (Obj.cells #[.slice _ (64 * (d.ss.set i _).length) _, _, _, _, _, _] _ _)
    rw [List.length_set]
  · rw [setRow_heap w g _ _ _ _ h4]
    show _ = some (Obj.cells (Lib.byteCells (d.ss.set i _).flatten ++ rest).toArray _ _)
    rw [← flat_part h.ok.ss hi y hy, Lib.byteCells_append, Lib.byteCells_append, Lib.byteCells_length]
    congr 3
    show (Lib.byteCells d.ss.flatten ++ rest).take (64 * i) ++ (Lib.byteCells y ++ (Lib.byteCells d.ss.flatten ++ rest).drop (64 * i + y.length)) = _
    rw [List.take_append_of_le_length (by omega), List.drop_append_of_le_length (by omega)]
    unfold Lib.byteCells
    rw [List.map_take, List.map_drop, List.append_assoc, List.append_assoc]

theorem fill_cells (x : List UInt8) : (Array.replicate 64 (Value.int .u8 0)).toList.take 0 ++ Lib.byteCells x ++ (Array.replicate 64 (Value.int .u8 0)).toList.drop (0 + x.length) = Lib.byteCells (fillD x) := by
  unfold fillD
  rw [Lib.byteCells_append, Array.toList_replicate, List.take_zero, List.nil_append, Nat.zero_add, List.drop_replicate]
  unfold Lib.byteCells
  rw [List.map_replicate]
  rfl

set_option maxRecDepth 100000 in
set_option maxHeartbeats 2000000 in
theorem swrite_any (B N g : Nat) (d : Dk) (w : World) (h : DiskAt w B N g d) (hB : B ≤ w.heap.size) (hwr : d.wr ≤ 1000000000000000) (p : Int) (s : ByteArray) (hs : s.size ≤ maxLen) :
    Calls Tryz.prog 78 #[.pointer (some ⟨N, 0, none⟩), .int .i64 p, .string s] w fun e w' => e = .returned (.int .i64 (sayD d p s.data.toList)) ∧ DiskAt w' B N g (writeD d p s.data.toList) ∧ Turned (mineD N g) w w' := by
  have hc := check_any B N g d w h p
  have hsl : s.data.toList.length = s.size := rfl
  unfold maxLen at hs
  unfold sayD writeD
  by_cases h0 : checkD d p = 0
  case neg =>
    rw [if_neg h0, if_neg (fun e => h0 e.1)]
    obtain ⟨c, hcc⟩ : ∃ c, checkD d p = c := ⟨_, rfl⟩
    rw [hcc] at hc h0 ⊢
    have hb : (c == 0) = false := by rw [beq_eq_false_iff_ne]; exact h0
    have H := Lib.hid h
    clear h h0 hcc hsl
    go_enter Tryz.func78, Tryz.ntmps78
    go_wp2_with (go_at_call 102; refine hc.mono ?_; rintro e w' ⟨rfl, rfl⟩)
    go_ret
    exact ⟨rfl, H.out, Turned.refl _ _⟩
  rw [if_pos h0]
  by_cases hlen : s.data.toList.length ≤ 64
  case neg =>
    rw [if_neg hlen, if_neg (fun e => hlen e.2)]
    rw [h0] at hc
    have hl2 : 64 < s.size := by omega
    have H := Lib.hid h
    clear h h0 hsl hlen
    go_enter Tryz.func78, Tryz.ntmps78
    go_wp2_with (go_at_call 102; refine hc.mono ?_; rintro e w' ⟨rfl, rfl⟩)
    go_ret
    exact ⟨rfl, H.out, Turned.refl _ _⟩
  rw [if_pos hlen, if_pos ⟨h0, hlen⟩]
  obtain ⟨_, hp1, hp2⟩ := check_zero.1 h0
  obtain ⟨i, rfl⟩ : ∃ i : Nat, p = i := ⟨p.toNat, by omega⟩
  have hi : i < d.ss.length := by omega
  rw [h0] at hc
  rw [Int.toNat_natCast]
  have hl2 : s.size ≤ 64 := by omega
  have hfill := fill_cells s.data.toList
  have hfl := fill_len hlen
  obtain ⟨y, hy⟩ : ∃ y, fillD s.data.toList = y := ⟨_, rfl⟩
  rw [hy] at hfill hfl
  have hw1 : ∀ o w2, Turned (fun b => b = w.heap.size) (w.alloc o) w2 → DiskAt w2 B N g d ∧ Turned (mineD N g) w w2 := fun o w2 ht => by
    refine ⟨(h.alloc o).keep ht (fun b hb e => ?_), ?_⟩
    · have := (h.blocks b hb).2
      omega
    · exact (Turned.of_below ((Below.refl _ w).alloc (Nat.le_refl _) o) (Nat.le_refl _)).trans ht (fun b e => .inr (by omega))
  have Hw1 := Lib.hid hw1
  have Hy := Lib.hid hy
  have Hs := Lib.hid hsl
  have HN := Lib.hid (And.intro h.ltN h.ltg)
  clear hlen hsl h0 hp1 hp2 hw1 h hy
  go_enter Tryz.func78, Tryz.ntmps78
  go_wp2_with fail
  refine hc.mono ?_
  rintro e w9 ⟨rfl, h9⟩
  obtain rfl := h9.symm
  clear h9 hc
  go_wp2_with (refine wpList_copy_text rfl (.tmp 20) (.tmp 21) 65 9 rfl 5 Tryz.underlying65 (by kernel_rfl) w.heap.size 0 64 64 s rfl rfl (Array.replicate 64 (Value.int .u8 0)) 188 (heap_alloc_new w _) hl2 (by simp; exact hl2) (Lib.byteCells y) hfill ?_; intro w2 hg2 ht2)
  obtain ⟨h2, t2⟩ := Hw1.out _ w2 ht2
  obtain ⟨cap, _, _, _, c1, c2, c3, c4, c5, fz⟩ := h2.cells
  have f4 := fz 4
  have ha := h2.ok.ah
  have hb := h2.ok.wr
  obtain ⟨K, hK⟩ : ∃ K, d.wr + 1 = K := ⟨_, rfl⟩
  obtain ⟨M, hM⟩ : ∃ M, K - d.ah = M := ⟨_, rfl⟩
  have hwM : IntKind.i64.wrap (K - d.ah) = M := by rw [IntWalk.i64_in _ (by omega), hM]
  have Hadd : Hid (∀ W : World, W.cell? ⟨N, 4, none⟩ = some (.int .i64 d.wr) → W.frozen? ⟨N, 4, none⟩ = false → Calls Tryz.prog 103 #[.pointer (some ⟨N, 4, none⟩), .int .i64 1] W fun e w' => e = .returned (.int .i64 K) ∧ w' = W.setCell ⟨N, 4, none⟩ (.int .i64 K)) := Lib.hid fun W q1 q2 => by
    have := add64_by ⟨N, 4, none⟩ d.wr 1 W q1 q2
    rw [IntWalk.wrap64_in _ (by omega), hK] at this
    exact this
  have h3 := h2.set (d' := ⟨d.ss, d.ca, d.ct, d.down, K, d.ah⟩) 4 (.int .i64 K) rfl ⟨h2.ok.ss, h2.ok.ah, by show d.ah ≤ K; omega⟩ (fun v => rfl)
  have Hh := Lib.hid (And.intro h2 (And.intro t2 (And.intro hg2 (And.intro h3 (And.intro hK (And.intro hM fz))))))
  clear h2 t2 hg2 h3 hK hM fz ht2 Hw1 c1 c2 c3 ha hb hfill
  go_simp
  go_region_held3 (fun W => W.cell? ⟨N, 5, none⟩ = some (.int .i64 d.ah)) (first | exact c5 | (simp only [go_sem]; exact c5) | (go_simp; done)) ((go_at_call 103; refine (Hadd.out _ (by exact c4) (by exact f4)).mono ?_; rintro e w9 ⟨rfl, rfl⟩))
  rename_i hHeld
  clear hHeld
  obtain ⟨q1, q2, q3, ⟨q4, q5⟩, q6, q7, q8⟩ := Hh.out
  have hD3 := q4.drew
  have t3 : Turned (mineD N g) w (w2.setCell ⟨N, 4, none⟩ (.int .i64 K)).drew := (q2.trans q5 (fun b e => .inl e)).trans (T := fun _ => False) Turned.drew (fun _ h => h.elim)
  have hw3 : (w2.setCell ⟨N, 4, none⟩ (.int .i64 K)).drew.heap[w.heap.size]? = some (Obj.cells (Lib.byteCells y).toArray 188 (0, 0)) := by
    refine (Turned.set (S := fun b => b = N) (w := w2) (j := 4) (N := N) (v := .int .i64 K) rfl).heap q3 (fun e => ?_)
    have := HN.out.1
    omega
  generalize (w2.setCell ⟨N, 4, none⟩ (.int .i64 K)).drew = w3 at hD3 t3 hw3 ⊢
  have HK := Lib.hid (And.intro q6 q7)
  clear q6 q7
  clear q1 q2 q3 q4 q5 q8 Hh Hadd c4 c5 f4 hwM
  obtain ⟨cap3, _, _, c0, c1, c2, c3, c4, c5, fz⟩ := hD3.cells
  have hcut := cut_out_any B N g _ w3.drew hD3.drew i hi
  have hg2 : ∀ (n : Nat) j v, ((Lib.byteCells y).take n)[j]? = some v → w3.cell? ((⟨w.heap.size, 0, none⟩ : Addr).add j) = some v := fun n j v hj => by
    rw [Addr.add_lit, Lib.cell_of_heap hw3]
    simp only [List.getElem?_toArray, Nat.zero_add]
    rw [List.getElem?_take] at hj
    split at hj
    · exact hj
    · cases hj
  have Hg2 := Lib.hid hg2
  have HD3 := Lib.hid hD3
  have Ht3 := Lib.hid t3
  have hyl : (Lib.byteCells y).length = 64 := by rw [Lib.byteCells_length]; exact hfl
  have hlay : ∀ x : List UInt8, x.length ≤ 64 → ∃ cur : Array Value, w3.drew.heap[g]? = some (.cells cur 5 (0, 0)) ∧ 64 * i + x.length ≤ cur.size ∧
      Hid (∀ w4, Hid (w4 = w3.drew.setRow g (cur.toList.take (64 * i) ++ (Lib.byteCells x ++ cur.toList.drop (64 * i + (Lib.byteCells x).length))).toArray) → DiskAt w4 B N g ⟨d.ss.set i (x ++ d.ss[i].drop x.length), d.ca, d.ct, d.down, K, d.ah⟩ ∧ Turned (mineD N g) w w4) := fun x hx => by
    obtain ⟨rest, l1, l2, l3⟩ := hD3.drew.lay hi x hx
    refine ⟨_, l1, l2, Lib.hid fun w4 e => ?_⟩
    rw [e.out]
    exact ⟨l3, (t3.trans (T := fun _ => False) Turned.drew (fun _ h => h.elim)).trans (turned_row (S := fun b => b = g) rfl) (fun b e => .inl (.inr e))⟩
  clear hD3 t3 hg2
  by_cases hM : M = d.ca
  · have hbM : (M == d.ca) = true := by rw [beq_iff_eq]; exact hM
    have htn : ((tornN d.ct : Nat) : Int) = min (max d.ct 0) 64 := by unfold tornN; omega
    have htl := torn_le d.ct
    have HM := Lib.hid hM
    have Hcut := Lib.hid hcut
    clear hcut
    obtain ⟨n, hn⟩ : ∃ n, tornN d.ct = n := ⟨_, rfl⟩
    have hxl : (y.take n).length = n := by rw [List.length_take]; omega
    obtain ⟨cur, l1, l2, l3⟩ := hlay (y.take n) (by omega)
    rw [hn] at htn htl
    rw [hxl] at l2
    have hcs : (Lib.byteCells (y.take n)).length = n := by rw [Lib.byteCells_length]; exact hxl
    have hsrc := Hg2.out n
    rw [show (Lib.byteCells y).take n = Lib.byteCells (y.take n) by unfold Lib.byteCells; rw [List.map_take]] at hsrc
    have Hxl := Lib.hid (And.intro hxl hn)
    have Hsrc := Lib.hid hsrc
    clear hM hlay hsrc hxl hn
    go_upto_region 12 with fail
    go_cut [10, 38] from 44 (fun t b wx => t = .int .i64 (n : Int) ∧ b = .bool false ∧ wx = w3)
    case first =>
      clear l1 l2 l3 hcs
      go_wp2_with fail
      all_goals
        go_meet
        refine ⟨?_, rfl, rfl⟩
        congr 1
        omega
    case rest =>
      obtain ⟨rfl, rfl, h9⟩ := hcut
      obtain rfl := h9.symm
      have hcut := Hcut.out
      have k1 : (0 : Int) ≤ (n : Int) := by omega
      have k2 : (n : Int) ≤ 64 := by omega
      have Htn := Lib.hid htn
      clear h9 htn
      go_wp2_with fail
      go_still_tail 5, (by kernel_rfl)
      still_call (hcut)
      still_step
      still_step
      refine wpStill_nil ?_
      change wpList _ _ _ _ _ w3.drew
      go_wp2_with (refine wpList_copy_row rfl (.tmp 53) (.tmp 55) 65 65 rfl 5 Tryz.underlying65 (by kernel_rfl) g (64 * i) 64 64 ⟨w.heap.size, 0, none⟩ n 64 rfl rfl cur 5 l1 (Lib.byteCells (y.take n)) (by rw [hcs]; exact (Nat.min_eq_left htl).symm) Hsrc.out (by rw [hcs]; omega) (Lib.byteCells_one _) ?_; intro w4 hw4; obtain ⟨z1, z2⟩ := l3.out w4 hw4; have e1 := (z1.cells).choose_spec.2.2.2.1; have Z1 := Lib.hid z1; have Z2 := Lib.hid z2; have zf1 := (z1.cells).choose_spec.2.2.2.2.2.2.2.2 1; have zf2 := (z1.cells).choose_spec.2.2.2.2.2.2.2.2 2; have zf3 := (z1.cells).choose_spec.2.2.2.2.2.2.2.2 3; have e2 := (z1.cells).choose_spec.2.2.2.2.1; have e3 := (z1.cells).choose_spec.2.2.2.2.2.1; clear z1 z2)
      go_ret
      obtain ⟨k1, k2⟩ := HK.out
      obtain ⟨x1, x2⟩ := Hxl.out
      have hyes : d.wr + 1 - d.ah = d.ca := by
        have := HM.out
        omega
      have s1 := Z1.out.set (d' := ⟨d.ss.set i (y.take n ++ d.ss[i].drop (y.take n).length), 0, d.ct, d.down, K, d.ah⟩) 1 (.int .i64 0) rfl ⟨Z1.out.ok.ss, Z1.out.ok.ah, Z1.out.ok.wr⟩ (fun v => rfl)
      have s2 := s1.1.set (d' := ⟨d.ss.set i (y.take n ++ d.ss[i].drop (y.take n).length), 0, 0, d.down, K, d.ah⟩) 2 (.int .i64 0) rfl ⟨Z1.out.ok.ss, Z1.out.ok.ah, Z1.out.ok.wr⟩ (fun v => rfl)
      have s3 := s2.1.set (d' := ⟨d.ss.set i (y.take n ++ d.ss[i].drop (y.take n).length), 0, 0, true, K, d.ah⟩) 3 (.bool true) rfl ⟨Z1.out.ok.ss, Z1.out.ok.ah, Z1.out.ok.wr⟩ (fun v => rfl)
      refine ⟨?_, ?_, ((Z2.out.trans s1.2 (fun b e => .inl e)).trans s2.2 (fun b e => .inl e)).trans s3.2 (fun b e => .inl e)⟩
      · unfold codeD
        rw [if_pos hyes]
        rfl
      · unfold wroteD
        rw [if_pos hyes, Hy.out, k1, x2]
        have := s3.1
        rw [x1] at this
        rw [List.getD_eq_getElem?_getD, List.getElem?_eq_getElem hi]
        exact this
  · have hbM : (M == d.ca) = false := by rw [beq_eq_false_iff_ne]; exact hM
    have HM := Lib.hid hM
    obtain ⟨cur, l1, l2, l3⟩ := hlay y (by omega)
    clear hM hlay
    have HK2 := Lib.hid (And.intro hyl hfl)
    go_wp2
    go_still_tail 4, (by kernel_rfl)
    still_call (hcut)
    still_step
    refine wpStill_nil ?_
    change wpList _ _ _ _ _ w3.drew
    go_wp2_with (refine wpList_copy_row rfl (.tmp 41) (.tmp 42) 65 65 rfl 5 Tryz.underlying65 (by kernel_rfl) g (64 * i) 64 64 ⟨w.heap.size, 0, none⟩ 64 64 rfl rfl cur 5 l1 (Lib.byteCells y) hyl (by have := Hg2.out 64; rw [List.take_of_length_le (by omega)] at this; exact this) (by rw [hyl]; omega) (Lib.byteCells_one y) ?_; intro w4 hw4)
    go_ret
    obtain ⟨z1, z2⟩ := l3.out w4 hw4
    obtain ⟨k1, k2⟩ := HK.out
    have hno : ¬ d.wr + 1 - d.ah = d.ca := by
      have := HM.out
      omega
    refine ⟨?_, ?_, z2⟩
    · unfold codeD
      rw [if_neg hno]
      rfl
    · unfold wroteD
      rw [if_neg hno, Hy.out, k1]
      have hds : d.ss[i].drop y.length = [] := List.drop_eq_nil_of_le (by have := HD3.out.ok.ss.get hi; show d.ss[i].length ≤ _; have h2 : d.ss[i].length = 64 := this; omega)
      rw [hds, List.append_nil] at z1
      exact z1
end Go.Proofs.YtgpdplffljidbaaGreatDoor
