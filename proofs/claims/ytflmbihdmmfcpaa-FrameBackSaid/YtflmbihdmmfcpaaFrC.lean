/-
  What a framer's Feed comes to: the lines that end in what is fed, told by the plain function.
-/
import Derived.Test.YtflmbihdmmfcpaaFrB
import Derived.Deep.RegionHeld3
import Derived.Deep.AppendLies
import Derived.LoopIn
import Derived.Deep.LoopGhost
namespace Go.Proofs.Ytflmbihdmmfcpaa
open Go.RowKit Go.Maps

theorem infoLine : (Try.prog.info? 35).map (fun i => (i.zero, i.size, i.bytes)) = some (some (.agg #[.string ⟨#[]⟩, .bool false]), 2, 24) := by kernel_rfl
/-- A line as a framer tells it: its text, or that it is long. -/
def lineCells (l : List UInt8) : List Value := [.string (textQ (keptF l)), .bool (longF l)]
def linesCells (ls : List (List UInt8)) : List Value := ls.flatMap lineCells
theorem lines_cells_snoc (ls : List (List UInt8)) (l : List UInt8) : linesCells (ls ++ [l]) = linesCells ls ++ lineCells l := by simp [linesCells]
theorem lines_cells_len (ls : List (List UInt8)) : (linesCells ls).length = ls.length * 2 := by
  induction ls with
  | nil => rfl
  | cons l ls ih =>
    show (lineCells l ++ linesCells ls).length = _
    rw [List.length_append, ih, List.length_cons]
    simp [lineCells]
    omega
theorem byte_ne {c d : UInt8} (h : c ≠ d) : ((c.toNat : Int) == (d.toNat : Int)) = false := by
  rw [beq_eq_false_iff_ne]
  intro e
  exact h (UInt8.toNat_inj.1 (by omega))

set_option maxRecDepth 100000 in
set_option maxHeartbeats 4000000 in
theorem feed_any (B N : Nat) (v : Value) (r r' : List UInt8) (ls : List (List UInt8)) (k : Nat) (s : ByteArray) (w : World) (hB : B ≤ w.heap.size) (f : FramerAt w B N v r (k : Int)) (hc : linesQ r = [r])
    (hl : linesQ (r ++ s.data.toList) = ls ++ [r']) (hs : s.size ≤ 1000000) (hk : k ≤ 1000000000000) :
    Calls Try.prog 13 #[.pointer (some ⟨N, 0, none⟩), .string s] w fun e w' => ∃ vl v', e = .returned vl ∧ w'.ownsRow w.heap.size 35 2 vl ls.length (linesCells ls) ∧ FramerAt w' B N v' r' ((k + s.size : Nat) : Int) ∧ Turned (mineF N v) w w' ∧ FreshF w v v' := by
  obtain ⟨i0, hi, hz0, hz1, hz2⟩ := info_parts infoLine
  have f0 : FramerOf w B N v (bodyF r) (halfF r) (k : Int) := f
  obtain ⟨c0, c1, c2, c3, fz⟩ := f0.cells
  have fz3 := fz 3
  have hNlt := f0.lt
  have hwrap : wrap64 ((k : Int) + (s.size : Int)) = ((k + s.size : Nat) : Int) := by
    rw [IntWalk.wrap64_in _ (by omega)]
    push_cast
    rfl
  have hadd := add64_by ⟨N, 3, none⟩ (k : Int) (s.size : Int) w c3 fz3
  rw [hwrap] at hadd
  have f1 : FramerAt (w.setCell ⟨N, 3, none⟩ (.int .i64 ((k + s.size : Nat) : Int))) B N v r ((k + s.size : Nat) : Int) := by
    refine framer_put f0 (by rw [set_block f0.2.1]; rfl) ?_
    exact (Turned.set (S := fun b => b = N) (j := 3) (N := N) (v := .int .i64 ((k + s.size : Nat) : Int)) rfl).row f0.2.2 (fun b e eb => f0.ne (by rw [e, eb]))
  have t1 : Turned (mineF N v) w (w.setCell ⟨N, 3, none⟩ (.int .i64 ((k + s.size : Nat) : Int))) := Turned.set (.inl rfl)
  obtain ⟨K, hK⟩ : ∃ K : Int, ((k + s.size : Nat) : Int) = K := ⟨_, rfl⟩
  rw [hK] at hadd f1 t1 ⊢
  have hz : w.heap.size = (w.setCell ⟨N, 3, none⟩ (.int .i64 K)).heap.size := by simp [World.setCell]
  obtain ⟨w0, hw0⟩ : ∃ w0, w.setCell ⟨N, 3, none⟩ (.int .i64 K) = w0 := ⟨_, rfl⟩
  rw [hw0] at hadd f1 t1 hz
  have Hl := Lib.hid hl
  have Hsl : Hid (s.data.toList.length = s.size) := Lib.hid rfl
  have Hc := Lib.hid hc
  clear f f0 c0 c1 c2 c3 fz fz3 hwrap hK hk hw0 hl hc
  go_enter Try.func13, Try.ntmps13
  go_wp2_with (go_at_call 23; refine hadd.mono ?_; rintro e w' ⟨rfl, rfl⟩)
  clear hadd
  go_loopw [5, 6, 15] (fun o _ iv wr => ∃ (i : Nat) (li : List (List UInt8)) (ri : List UInt8) (vi : Value), i ≤ s.size ∧ iv = .int .i64 i ∧ li.length ≤ i ∧ linesQ (r ++ s.data.toList.take i) = li ++ [ri] ∧ wr.ownsRow w.heap.size 35 2 o li.length (linesCells li) ∧ FramerAt wr B N vi ri K ∧ Turned (mineF N v) w wr ∧ FreshF w v vi) (fun _ _ iv _ => s.size - (intOf iv).toNat)
  case atStart => exact ⟨0, [], r, v, by omega, rfl, by simp, by rw [List.take_zero, List.append_nil, Hc.out]; rfl, World.ownsRow_nil _ _ _ _, f1, t1, FreshF.refl _ _⟩
  case round =>
    obtain ⟨i, li, ri, vi, hi1, rfl, hll, hst, hown, hF, ht, hf⟩ := hrel
    rename_i vo _
    have hF0 : FramerOf wr B N vi (bodyF ri) (halfF ri) K := hF
    have hwz := ht.size
    by_cases hlt : i < s.size
    · have hdr : s.data.toList.take (i + 1) = s.data.toList.take i ++ [s[i]] := by
        rw [List.take_add_one, List.getElem?_eq_getElem (by rw [Hsl.out]; exact hlt)]
        rfl
      have hn : linesQ (r ++ s.data.toList.take (i + 1)) = li ++ linesQ (ri ++ [s[i]]) := by
        rw [hdr, ← List.append_assoc]
        exact lines_app [s[i]] _ _ _ hst
      have hcl := rest_clean hst
      obtain ⟨c, hce⟩ : ∃ c, s[i] = c := ⟨_, rfl⟩
      have hcc : ((s[i].toNat : Int)) = (c.toNat : Int) := by rw [hce]
      rw [hce] at hn
      clear hdr hst
      by_cases hA : halfF ri = true ∧ c = 10
      · rw [hA.2, feed_end hcl hA.1] at hn
        have hn2 : linesQ (r ++ s.data.toList.take (i + 1)) = (li ++ [bodyF ri]) ++ [[]] := by rw [hn, List.append_assoc]; rfl
        have hb10 : ((s[i].toNat : Int) == 10) = true := by rw [hce, hA.2]; rfl
        have ka : ∀ (W : World) (o : Obj), FramerOf W B N vi (bodyF ri) (halfF ri) K → FramerOf (W.alloc o) B N vi (bodyF ri) (halfF ri) K := fun W o h => h.keep (S := fun _ => False) (Turned.of_below ((Below.refl _ W).alloc (Nat.le_refl _) o) (Nat.le_refl _)) (fun _ _ h => h)
        have kd : ∀ (W : World), FramerOf W B N vi (bodyF ri) (halfF ri) K → FramerOf W.drew B N vi (bodyF ri) (halfF ri) K := fun W h => h.keep (S := fun _ => False) Turned.drew (fun _ _ h => h)
        obtain ⟨X, hX⟩ : ∃ X, textQ (keptF (bodyF ri)) = X := ⟨_, rfl⟩
        obtain ⟨lo, hlo⟩ : ∃ lo, longF (bodyF ri) = lo := ⟨_, rfl⟩
        have kS : ∀ (W : World), FramerOf W B N vi (bodyF ri) (halfF ri) K → (FramerOf W B N vi (bodyF ri) (halfF ri) K ∧ W.cell? ⟨N, 0, none⟩ = some vi ∧ W.cell? ⟨N, 1, none⟩ = some (.bool lo) ∧ (convert 52 9 vi).run Try.prog W = .ok (.string X) W) := fun W h => by
          obtain ⟨q0, q1, _⟩ := h.cells
          rw [hlo] at q1
          refine ⟨h, q0, q1, ?_⟩
          rw [← hX]
          exact conv_own4 h.2.2
        have hno := hF0.row_no hown (by decide) (by decide)
        have kg : ∀ (w1 : World), ((wr.alloc (.cells #[.string X, .bool lo] 35)).drew).grownBy w1 (u5.ownBlock) → FramerOf w1 B N vi (bodyF ri) (halfF ri) K ∧ Turned (fun b => u5.ownBlock = some b) wr w1 := fun w1 hg => by
          have ht0 : Turned (fun b => u5.ownBlock = some b) wr ((wr.alloc (.cells #[.string X, .bool lo] 35)).drew) := (Turned.of_below ((Below.refl _ wr).alloc (Nat.le_refl _) (.cells #[.string X, .bool lo] 35)) (Nat.le_refl _)).trans (T := fun _ => False) Turned.drew (fun _ h => h.elim)
          have ht1 := ht0.trans (Turned.of_grown (S := fun b => u5.ownBlock = some b) hg (fun k e => .inl e)) (fun b e => .inl e)
          exact ⟨hF0.keep ht1 (fun b hm e => hno b e hm), ht1⟩
        have hle : linesCells li ++ [.string X, .bool lo] = linesCells (li ++ [bodyF ri]) := by rw [lines_cells_snoc, lineCells, hX, hlo]
        have q2 := hF0.cells.2.2.1
        rw [hA.1] at q2
        have h63 : li.length + 1 ≤ maxLen := by unfold maxLen; omega
        have hbb : (li.length + 1) * 24 ≤ 140737488355328 := by omega
        have hwl : w.heap.size ≤ wr.heap.size + 1 := by omega
        have Hn2 := Lib.hid hn2
        have HA := Lib.hid hA.1
        have hlw := hF0.lt
        clear hn hn2 hA hce hcc hcl hX hlo hF
        go_wp2_with fail
        go_region_held3 (fun W => FramerOf W B N vi (bodyF ri) (halfF ri) K ∧ W.cell? ⟨N, 0, none⟩ = some vi ∧ W.cell? ⟨N, 1, none⟩ = some (.bool lo) ∧ (convert 52 9 vi).run Try.prog W = .ok (.string X) W)
          (first | exact kS _ hF0 | exact kS _ (kd _ hF0) | exact kS _ (ka _ _ hF0) | exact kS _ (kd _ (ka _ _ hF0)) | exact kS _ (ka _ _ (kd _ hF0)) | exact kS _ (kg _ hgrow).1)
          ((refine step_append_lies _ (by rfl) _ _ _ (by rfl) w.heap.size 35 i0 _ 2 24 Try.underlying27 hi hz0 hz1 hz2 rfl (by omega) u5 li.length (linesCells li) (by rfl) ((hown.alloc _).drew)
                ⟨wr.heap.size, 0, none⟩ 1 1 [.string X, .bool lo] (by rfl) (by rfl) (World.news_of_block (cs := #[.string X, .bool lo]) (t := 35) (fr := (0, 0)) (heap_alloc_new wr _)) (by simp [Value.oneCell'])
                (by omega) h63 hbb (by simp; omega) (wr.heap.size + 1) (by simp) ?_; intro gg cap w1 hown1 hgrow hat hlt1))
        rename_i hHeld
        clear hHeld
        obtain ⟨hF1, ht1⟩ := kg w1 hgrow
        have ht2 : Turned (mineF N v) w w1 := ht.trans ht1 (fun b e => .inr (row_block hown e).1)
        have hres := frreset_any B N vi ri K w1 hF1
        have hown2 : w1.ownsRow w.heap.size 35 2 (.slice (some ⟨gg, 0, none⟩) (li.length + 1) cap) (li ++ [bodyF ri]).length (linesCells (li ++ [bodyF ri])) := by
          rw [← hle, List.length_append]
          exact hown1
        have hno2 := hF1.row_no hown2 (by decide) (by decide)
        have hwz1 := ht2.size
        clear ka kd kS kg hgrow hat hown1 hown hF0 hno hle ht1 ht q2 hbb h63 hwl
        go_wp2_with fail
        refine hres.mono ?_
        rintro e w2 ⟨rfl, hF2, ht3⟩
        have hown3 := ht3.row hown2 hno2
        have ht4 : Turned (mineF N v) w w2 := ht2.trans ht3 (mine_fresh hf)
        clear hres hF1 hno2 ht2 ht3 hown2
        go_wp2
        go_roundw
        case rel => exact ⟨i + 1, li ++ [bodyF ri], [], .slice none 0 0, by omega, by go_num, by simp; omega, Hn2.out, hown3, hF2, ht4, FreshF.none _ _⟩
        case measure => simp [intOf]; omega
      · have hfb : (halfF ri && decide (c = 10)) = false := by
          cases hh : halfF ri with
          | false => rfl
          | true => exact decide_eq_false (fun e => hA ⟨hh, e⟩)
        rw [feed_byte hcl hfb] at hn
        have hhear := frhear_any B N vi ri K wr c (by omega) hF
        have q2 := hF0.cells.2.2.1
        have hno := hF0.row_no hown (by decide) (by decide)
        have hlw := hF0.lt
        have Hn := Lib.hid hn
        rw [← hce] at hhear
        have fin : Hid (∀ (w2 : World) (v' : Value), FramerAt w2 B N v' (ri ++ [c]) K → Turned (mineF N vi) wr w2 → FreshF wr vi v' → w2.ownsRow w.heap.size 35 2 u5 li.length (linesCells li) ∧ Turned (mineF N v) w w2 ∧ FreshF w v v') := Lib.hid fun w2 v' _ h2 h3 =>
          ⟨h2.row hown hno, ht.trans h2 (mine_fresh hf), hf.trans h3 hwz⟩
        by_cases hh : halfF ri = true
        · have h10 : ((s[i].toNat : Int) == 10) = false := by
            rw [hce]
            exact byte_ne (d := 10) (fun e => hA ⟨hh, e⟩)
          rw [hh] at q2
          have Hce := Lib.hid hce
          clear hn hcl hcc hfb hA hF hF0 hown ht hno hh hce
          go_wp2_with fail
          refine hhear.mono ?_
          rintro e w2 ⟨v', rfl, hF2, ht2, hf2⟩
          rw [Hce.out] at hF2
          obtain ⟨z1, z2, z3⟩ := fin.out w2 v' hF2 ht2 hf2
          clear hhear fin
          go_wp2
          go_roundw
          case rel => exact ⟨i + 1, li, ri ++ [c], v', by omega, by go_num, by omega, Hn.out, z1, hF2, z2, z3⟩
          case measure => simp [intOf]; omega
        · have hh2 : halfF ri = false := by simpa using hh
          rw [hh2] at q2
          have Hce := Lib.hid hce
          clear hn hcl hcc hfb hA hF hF0 hown ht hno hh hh2 hce
          go_wp2_with fail
          refine hhear.mono ?_
          rintro e w2 ⟨v', rfl, hF2, ht2, hf2⟩
          rw [Hce.out] at hF2
          obtain ⟨z1, z2, z3⟩ := fin.out w2 v' hF2 ht2 hf2
          clear hhear fin
          go_wp2
          go_roundw
          case rel => exact ⟨i + 1, li, ri ++ [c], v', by omega, by go_num, by omega, Hn.out, z1, hF2, z2, z3⟩
          case measure => simp [intOf]; omega
    · obtain rfl : i = s.size := by omega
      rw [List.take_of_length_le (by rw [Hsl.out]; exact Nat.le_refl _), Hl.out] at hst
      obtain ⟨rfl, rfl⟩ := parts_inj hst
      clear hst hF0
      go_wp2
      go_ret
      exact ⟨_, _, rfl, hown, hF, ht, hf⟩
end Go.Proofs.Ytflmbihdmmfcpaa
