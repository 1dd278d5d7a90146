/-
  Texts of this proof, put together: R8Q.
-/
import Derived.Test.YtcjmpkfcjcoobaaGreatX26
namespace Go.Proofs.YtcjmpkfcjcoobaaGreat
open Go.RowKit

/-- The call's own row of bytes. -/
abbrev OwnB8 (B : Nat) (w : World) (v : Value) (acc : List UInt8) : Prop := w.ownsRow B 5 1 v acc.length (Lib.byteCells acc)
/-- In a region: a text is appended to a row of bytes of the call's own. -/
theorem step_append_text {ops : Array Oper} {o : Oper} {a : Act} {w : World} {K : Act → World → Prop} {Q : Exit → Act → World → Prop} {E : Prop} (hgd : o.guard = none) (sl x : Operand)
    (ho : o.op = .call { callee := .builtin .append, args := #[sl, x], argTypes := #[72, 9] }) (B : Nat) (v : Value) (acc : List UInt8) (hs : a.eval sl = v) (hown : OwnB8 B w v acc) (s : List UInt8) (hx : a.eval x = .string (textQ s))
    (hl : acc.length + s.length ≤ 100000000000) (hB : B ≤ w.heap.size)
    (h : ∀ v' w', OwnB8 B w' v' (acc ++ s) → w.grownBy w' v.ownBlock → K (a.put o.dst v') w') : if Region.wanted o (yielded ops a.tmps) = true then Oper.wp Tryz.prog o a w K Q else E := by
  have hw : Region.wanted o (yielded ops a.tmps) = true := by simp [Region.wanted, hgd]
  rw [if_pos hw]
  obtain ⟨i0, hi, hz0, hz1, hz2⟩ := info_parts infoB4
  have hsz : (textQ s).size = s.length := rfl
  obtain ⟨v', w', hr, h2, h3, _⟩ := Lib.run_append_own_string (P := Tryz.prog) w B 72 9 o.type 5 i0 Tryz.underlying72 Tryz.underlying9 hi hz0 hz1 hz2 v acc.length (Lib.byteCells acc) hown (textQ s) (by unfold maxLen; omega) (by omega) hB
  unfold Oper.wp execOp
  simp only [ho, resolve, invoke, builtin, Sem.run_bind, Sem.run_pure, Result.andThen_ok, List.map_toArray, List.map_cons, List.map_nil, hs, hx, hr]
  refine h v' w' ?_ h3
  have e : Lib.byteCells acc ++ Lib.strCells (textQ s) = Lib.byteCells (acc ++ s) := by rw [Lib.strCells_eq, Lib.byteCells_append]; rfl
  rw [e] at h2
  unfold OwnB8
  rw [List.length_append]
  exact h2
theorem text_append (a b : List UInt8) : textQ a ++ textQ b = textQ (a ++ b) := by
  refine ByteArray.ext ?_
  rw [ByteArray.data_append]
  exact Array.toList_inj.1 (by rw [Array.toList_append]; rfl)
def printV (l : List Ch) : Value := if l.all (fun c => decide (c.key.length ≤ 65535) && decide (c.val.length ≤ 65535)) = true then .tuple #[.string (textQ (printL l)), .int .i64 0] else .tuple #[.string ⟨#[]⟩, .int .i64 3]

set_option maxRecDepth 100000 in
set_option maxHeartbeats 4000000 in
theorem rprint_any (B : Nat) (v : Value) (l : List Ch) (w : World) (h : ChsAt w B v l) (hB : B ≤ w.heap.size) (hl : l.length ≤ 100000) :
    Calls Tryz.prog 9 #[v] w fun e w' => e = .returned (printV l) ∧ Below w.heap.size w w' := by
  obtain ⟨i0, hi0, hz00, hz10, hz20⟩ := info_parts infoB4
  obtain ⟨ao, cap, rfl, hc1, hc2, hat⟩ := h
  have Hat := Lib.hid hat
  clear hat
  obtain ⟨n, hn⟩ : ∃ n, l.length = n := ⟨_, rfl⟩
  have Hn := Lib.hid hn
  rw [hn] at hl hc1 ⊢
  clear hn hc2
  go_enter Tryz.func9, Tryz.ntmps9
  go_wp2
  go_loopw [4, 5] (fun o iv wr => ∃ i : Nat, i ≤ n ∧ iv = .int .i64 i ∧ Hid (∀ c ∈ l.take i, c.fits) ∧ (printL (l.take i)).length ≤ 131075 * i ∧ OwnB8 w.heap.size wr o (printL (l.take i)) ∧ Below w.heap.size w wr) (fun _ iv _ => n - (intOf iv).toNat)
  case atStart => exact ⟨0, by omega, rfl, Lib.hid (fun c hc => by cases hc), by simp [printL], World.ownsRow_nil _ _ _ _, Below.refl _ _⟩
  case round =>
    obtain ⟨i, hi, rfl, hf, hlen, hown, hbr⟩ := hrel
    have hbz := hbr.size
    by_cases hlt : i < n
    · obtain ⟨g, off, rfl, hg, hk, hv, hgo⟩ := Hat.out i (by rw [Hn.out]; exact hlt)
      have hil : i < l.length := by rw [Hn.out]; exact hlt
      have htk : l.take (i + 1) = l.take i ++ [l[i]] := by rw [List.take_succ_eq_append_getElem hil]
      have hmem : l[i] ∈ l := List.getElem_mem hil
      obtain ⟨c, hc⟩ : ∃ c, l[i] = c := ⟨_, rfl⟩
      rw [hc] at hk hv hgo htk hmem
      have hnot : Hid (¬ c.fits → printV l = .tuple #[.string ⟨#[]⟩, .int .i64 3]) := Lib.hid fun hcf => by
        unfold printV
        rw [if_neg]
        intro hall
        have := List.all_eq_true.1 hall c hmem
        simp only [Bool.and_eq_true, decide_eq_true_eq] at this
        exact hcf this
      obtain ⟨KT, hKT⟩ : ∃ KT, textQ c.key = KT := ⟨_, rfl⟩
      obtain ⟨VT, hVT⟩ : ∃ VT, textQ c.val = VT := ⟨_, rfl⟩
      have hks : KT.size = c.key.length := by rw [← hKT]; rfl
      have hvs : VT.size = c.val.length := by rw [← hVT]; rfl
      rw [hKT] at hk
      rw [hVT] at hv
      have hpk : wr.cell? ⟨g, off + i * 3, none⟩ = some (.string KT) := (hbr.cell (p := ⟨g, off + i * 3, none⟩) (by show g < w.heap.size; omega)).trans hk
      have hpv : wr.cell? ⟨g, off + i * 3 + 1, none⟩ = some (.string VT) := (hbr.cell (p := ⟨g, off + i * 3 + 1, none⟩) (by show g < w.heap.size; omega)).trans hv
      have hpg : wr.cell? ⟨g, off + i * 3 + 2, none⟩ = some (.bool c.gone) := (hbr.cell (p := ⟨g, off + i * 3 + 2, none⟩) (by show g < w.heap.size; omega)).trans hgo
      have HKT := Lib.hid hKT
      have HVT := Lib.hid hVT
      clear hc hil hmem hKT hVT
      by_cases hkf : c.key.length ≤ 65535
      · by_cases hvf : c.val.length ≤ 65535
        · have g1 : ¬ (65535 : Int) < (KT.size : Int) := by omega
          have g2 : ¬ (65535 : Int) < (VT.size : Int) := by omega
          have g3 : KT.size ≤ 65535 := by omega
          have g4 : VT.size ≤ 65535 := by omega
          have hfit : c.fits := ⟨hkf, hvf⟩
          have hf2 : Hid (∀ x ∈ l.take (i + 1), x.fits) := Lib.hid fun x hx => by
            rw [htk] at hx
            rcases List.mem_append.1 hx with hx | hx
            · exact hf.out x hx
            · rw [List.mem_singleton.1 hx]; exact hfit
          have hnx : printL (l.take (i + 1)) = printL (l.take i) ++ printC c := by
            rw [htk]
            simp [printL]
          obtain ⟨acc, hacc⟩ : ∃ acc, printL (l.take i) = acc := ⟨_, rfl⟩
          rw [hacc] at hown hlen hnx
          have Hnx := Lib.hid hnx
          have Hks := Lib.hid hks
          have Hvs := Lib.hid hvs
          clear hks hvs hacc hnx htk hfit hkf hvf hnot hf
          obtain ⟨gn, hgn⟩ : ∃ gn, c.gone = gn := ⟨_, rfl⟩
          have Hgn := Lib.hid hgn
          rw [hgn] at hpg
          clear hgn
          cases gn with
          | true =>
            have happ := World.ownsRow.alloc hown (.cells #[.int .u8 1] 5)
            go_wp2_with (at_builtin; refine wpList_append_own _ rfl _ _ 72 rfl w.heap.size 5 i0 (.int .u8 0) 1 1 Tryz.underlying72 hi0 hz00 hz10 hz20 rfl (by decide) u4 acc.length (Lib.byteCells acc) rfl happ ⟨wr.heap.size, 0, none⟩ 1 1 [.int .u8 1] rfl rfl (World.news_of_block (cs := #[.int .u8 1]) (t := 5) (fr := (0, 0)) (heap_alloc_new wr _)) (by simp [Value.oneCell']) (by unfold maxLen; omega) (by omega) (by simp; omega) ?_)
            intro v2 w2 hown2 hgrow2 _
            have hb2 : Below w.heap.size w w2 := (hbr.alloc hbz _).grown hgrow2 (by simp; omega) fun k hk => (row_block happ hk).1
            have ho2 : OwnB8 w.heap.size w2 v2 (acc ++ [1]) := by
              unfold OwnB8
              rw [List.length_append, Lib.byteCells_append]
              exact hown2
            have hz2 := hb2.size
            have hSt : Hid (∀ W W' : World, (W.cell? ⟨g, off + i * 3, none⟩ = some (.string KT) ∧ W.cell? ⟨g, off + i * 3 + 1, none⟩ = some (.string VT) ∧ Below w.heap.size w W) → Below W.heap.size W W' → (fun W => W.cell? ⟨g, off + i * 3, none⟩ = some (.string KT) ∧ W.cell? ⟨g, off + i * 3 + 1, none⟩ = some (.string VT) ∧ Below w.heap.size w W) W') := Lib.hid fun W W' hS hb => by
              have h1 := hS.2.2.trans (hb.mono hS.2.2.size)
              exact ⟨(h1.cell (p := ⟨g, off + i * 3, none⟩) (by show g < w.heap.size; omega)).trans hk, (h1.cell (p := ⟨g, off + i * 3 + 1, none⟩) (by show g < w.heap.size; omega)).trans hv, h1⟩
            have hSb : Hid (∀ W' : World, Below w.heap.size w W' → (fun W => W.cell? ⟨g, off + i * 3, none⟩ = some (.string KT) ∧ W.cell? ⟨g, off + i * 3 + 1, none⟩ = some (.string VT) ∧ Below w.heap.size w W) W') := Lib.hid fun W' h1 =>
              ⟨(h1.cell (p := ⟨g, off + i * 3, none⟩) (by show g < w.heap.size; omega)).trans hk, (h1.cell (p := ⟨g, off + i * 3 + 1, none⟩) (by show g < w.heap.size; omega)).trans hv, h1⟩
            have HL : Hid ((acc ++ [1]).length + (two8 KT.size ++ two8 0 ++ c.key).length ≤ 100000000000) := Lib.hid (by have q1 := Hks.out; have q2 := Hvs.out; simp [two8]; omega)
            have HLn : Hid ((acc ++ [1] ++ (two8 KT.size ++ two8 0 ++ c.key)).length ≤ 131075 * (i + 1)) := Lib.hid (by have q1 := Hks.out; have q2 := Hvs.out; simp [two8]; omega)
            have HEq : Hid (acc ++ [1] ++ (two8 KT.size ++ two8 0 ++ c.key) = printL (l.take (i + 1))) := Lib.hid (by
              rw [Hnx.out]
              unfold printC Ch.says
              rw [Hgn.out, Hks.out]
              simp)
            obtain ⟨T1, hT1⟩ : ∃ T1, textQ (two8 KT.size) = T1 := ⟨_, rfl⟩
            obtain ⟨T0, hT0⟩ : ∃ T0, textQ (two8 0) = T0 := ⟨_, rfl⟩
            have ht1 : T1.size = 2 := by rw [← hT1]; rfl
            have ht0 : T0.size = 2 := by rw [← hT0]; rfl
            have hTw1 : Hid (∀ W : World, (W.cell? ⟨g, off + i * 3, none⟩ = some (.string KT) ∧ W.cell? ⟨g, off + i * 3 + 1, none⟩ = some (.string VT) ∧ Below w.heap.size w W) → Calls Tryz.prog 32 #[.int .i64 (KT.size : Int)] W fun e W' => e = .returned (.string T1) ∧ (fun W => W.cell? ⟨g, off + i * 3, none⟩ = some (.string KT) ∧ W.cell? ⟨g, off + i * 3 + 1, none⟩ = some (.string VT) ∧ Below w.heap.size w W) W' ∧ Below W.heap.size W W') := Lib.hid fun W hS => by
              refine (rtwo_any KT.size g3 W).mono ?_
              rintro e W' ⟨he, hb⟩
              exact ⟨by rw [he, hT1], hSt.out W W' hS hb, hb⟩
            have hTw0 : Hid (∀ W : World, (W.cell? ⟨g, off + i * 3, none⟩ = some (.string KT) ∧ W.cell? ⟨g, off + i * 3 + 1, none⟩ = some (.string VT) ∧ Below w.heap.size w W) → Calls Tryz.prog 32 #[.int .i64 0] W fun e W' => e = .returned (.string T0) ∧ (fun W => W.cell? ⟨g, off + i * 3, none⟩ = some (.string KT) ∧ W.cell? ⟨g, off + i * 3 + 1, none⟩ = some (.string VT) ∧ Below w.heap.size w W) W' ∧ Below W.heap.size W W') := Lib.hid fun W hS => by
              refine (rtwo_any 0 (by omega) W).mono ?_
              rintro e W' ⟨he, hb⟩
              exact ⟨by rw [he, hT0], hSt.out W W' hS hb, hb⟩
            have hS1 : w2.cell? ⟨g, off + i * 3, none⟩ = some (.string KT) ∧ w2.cell? ⟨g, off + i * 3 + 1, none⟩ = some (.string VT) ∧ Below w.heap.size w w2 := ⟨(hb2.cell (p := ⟨g, off + i * 3, none⟩) (by show g < w.heap.size; omega)).trans hk, (hb2.cell (p := ⟨g, off + i * 3 + 1, none⟩) (by show g < w.heap.size; omega)).trans hv, hb2⟩
            have hS1d := hSt.out _ _ hS1 (Below.drew (Below.refl _ w2))
            have ho2d : OwnB8 w.heap.size w2.drew v2 (acc ++ [1]) := ownsRow_below4 ho2 (Below.drew (Below.refl _ w2))
            have e1 : ¬ 9223372036854775807 < T1.size + T0.size := by omega
            have e2 : ¬ 9223372036854775807 < T1.size + T0.size + KT.size := by omega
            have HT1 := Lib.hid hT1
            have HT0 := Lib.hid hT0
            have Ho2 := Lib.hid ho2d
            have HS1d := Lib.hid hS1d
            clear hown hown2 hgrow2 happ hb2 ho2 hpk hpv hpg hT1 hT0 ho2d hS1d ht1 ht0
            go_wp2_with fail
            go_region_held3 (fun W => W.cell? ⟨g, off + i * 3, none⟩ = some (.string KT) ∧ W.cell? ⟨g, off + i * 3 + 1, none⟩ = some (.string VT) ∧ Below w.heap.size w W)
              (first | exact HS1d.out | assumption | exact hSt.out _ _ (by assumption) (Below.drew (Below.refl _ _)) | (trace_state; fail))
              (first
                | (go_at_call_of 32 (Value.int IntKind.i64 (KT.size : Int)); refine (hTw1.out _ ?_).mono ?_; assumption; rintro e w5 ⟨rfl, hS5, hB5⟩; have Ho5 := Lib.hid (ownsRow_below4 Ho2.out hB5); clear hB5)
                | (go_at_call_of 32 (Value.int IntKind.i64 0); refine (hTw0.out _ ?_).mono ?_; assumption; rintro e w6 ⟨rfl, hS6, hB6⟩; have Ho6 := Lib.hid (ownsRow_below4 Ho5.out hB6); clear hB6)
                | (refine step_append_text rfl _ _ rfl w.heap.size v2 (acc ++ [1]) rfl Ho6.out (two8 KT.size ++ two8 0 ++ c.key) (by rw [← show T1 ++ T0 ++ KT = textQ (two8 KT.size ++ two8 0 ++ c.key) by rw [← HT1.out, ← HT0.out, ← HKT.out, text_append, text_append]]; rfl) HL.out hS6.2.2.size ?_; intro v7 w7 ho7 hgrow7; have hb7 := hS6.2.2.grown hgrow7 hS6.2.2.size (fun k hk => (row_block Ho6.out hk).1); have hS7 := hSb.out _ hb7; have Ho7 := Lib.hid ho7; clear ho7 hgrow7))
            rename_i hHeld
            clear hHeld
            have hz7 := hb7.size
            clear hTw1 hTw0 HS1d Ho2
            go_wp2
            go_roundw
            case rel => exact ⟨i + 1, by omega, by go_num, hf2, by rw [← HEq.out]; exact HLn.out, by rw [← HEq.out]; exact Ho7.out, hb7⟩
            case measure => simp [intOf]; omega
          | false =>
            have happ := World.ownsRow.alloc hown (.cells #[.int .u8 0] 5)
            go_wp2_with (at_builtin; refine wpList_append_own _ rfl _ _ 72 rfl w.heap.size 5 i0 (.int .u8 0) 1 1 Tryz.underlying72 hi0 hz00 hz10 hz20 rfl (by decide) u4 acc.length (Lib.byteCells acc) rfl happ ⟨wr.heap.size, 0, none⟩ 1 1 [.int .u8 0] rfl rfl (World.news_of_block (cs := #[.int .u8 0]) (t := 5) (fr := (0, 0)) (heap_alloc_new wr _)) (by simp [Value.oneCell']) (by unfold maxLen; omega) (by omega) (by simp; omega) ?_)
            intro v2 w2 hown2 hgrow2 _
            have hb2 : Below w.heap.size w w2 := (hbr.alloc hbz _).grown hgrow2 (by simp; omega) fun k hk => (row_block happ hk).1
            have ho2 : OwnB8 w.heap.size w2 v2 (acc ++ [0]) := by
              unfold OwnB8
              rw [List.length_append, Lib.byteCells_append]
              exact hown2
            have hz2 := hb2.size
            have hSt : Hid (∀ W W' : World, (W.cell? ⟨g, off + i * 3, none⟩ = some (.string KT) ∧ W.cell? ⟨g, off + i * 3 + 1, none⟩ = some (.string VT) ∧ Below w.heap.size w W) → Below W.heap.size W W' → (fun W => W.cell? ⟨g, off + i * 3, none⟩ = some (.string KT) ∧ W.cell? ⟨g, off + i * 3 + 1, none⟩ = some (.string VT) ∧ Below w.heap.size w W) W') := Lib.hid fun W W' hS hb => by
              have h1 := hS.2.2.trans (hb.mono hS.2.2.size)
              exact ⟨(h1.cell (p := ⟨g, off + i * 3, none⟩) (by show g < w.heap.size; omega)).trans hk, (h1.cell (p := ⟨g, off + i * 3 + 1, none⟩) (by show g < w.heap.size; omega)).trans hv, h1⟩
            have hSb : Hid (∀ W' : World, Below w.heap.size w W' → (fun W => W.cell? ⟨g, off + i * 3, none⟩ = some (.string KT) ∧ W.cell? ⟨g, off + i * 3 + 1, none⟩ = some (.string VT) ∧ Below w.heap.size w W) W') := Lib.hid fun W' h1 =>
              ⟨(h1.cell (p := ⟨g, off + i * 3, none⟩) (by show g < w.heap.size; omega)).trans hk, (h1.cell (p := ⟨g, off + i * 3 + 1, none⟩) (by show g < w.heap.size; omega)).trans hv, h1⟩
            have HL : Hid ((acc ++ [0]).length + (two8 KT.size ++ two8 VT.size ++ c.key ++ c.val).length ≤ 100000000000) := Lib.hid (by have q1 := Hks.out; have q2 := Hvs.out; simp [two8]; omega)
            have HLn : Hid ((acc ++ [0] ++ (two8 KT.size ++ two8 VT.size ++ c.key ++ c.val)).length ≤ 131075 * (i + 1)) := Lib.hid (by have q1 := Hks.out; have q2 := Hvs.out; simp [two8]; omega)
            have HEq : Hid (acc ++ [0] ++ (two8 KT.size ++ two8 VT.size ++ c.key ++ c.val) = printL (l.take (i + 1))) := Lib.hid (by
              rw [Hnx.out]
              unfold printC Ch.says
              rw [Hgn.out, Hks.out, Hvs.out]
              simp)
            obtain ⟨T1, hT1⟩ : ∃ T1, textQ (two8 KT.size) = T1 := ⟨_, rfl⟩
            obtain ⟨T0, hT0⟩ : ∃ T0, textQ (two8 VT.size) = T0 := ⟨_, rfl⟩
            have ht1 : T1.size = 2 := by rw [← hT1]; rfl
            have ht0 : T0.size = 2 := by rw [← hT0]; rfl
            have hTw1 : Hid (∀ W : World, (W.cell? ⟨g, off + i * 3, none⟩ = some (.string KT) ∧ W.cell? ⟨g, off + i * 3 + 1, none⟩ = some (.string VT) ∧ Below w.heap.size w W) → Calls Tryz.prog 32 #[.int .i64 (KT.size : Int)] W fun e W' => e = .returned (.string T1) ∧ (fun W => W.cell? ⟨g, off + i * 3, none⟩ = some (.string KT) ∧ W.cell? ⟨g, off + i * 3 + 1, none⟩ = some (.string VT) ∧ Below w.heap.size w W) W' ∧ Below W.heap.size W W') := Lib.hid fun W hS => by
              refine (rtwo_any KT.size g3 W).mono ?_
              rintro e W' ⟨he, hb⟩
              exact ⟨by rw [he, hT1], hSt.out W W' hS hb, hb⟩
            have hTw0 : Hid (∀ W : World, (W.cell? ⟨g, off + i * 3, none⟩ = some (.string KT) ∧ W.cell? ⟨g, off + i * 3 + 1, none⟩ = some (.string VT) ∧ Below w.heap.size w W) → Calls Tryz.prog 32 #[.int .i64 (VT.size : Int)] W fun e W' => e = .returned (.string T0) ∧ (fun W => W.cell? ⟨g, off + i * 3, none⟩ = some (.string KT) ∧ W.cell? ⟨g, off + i * 3 + 1, none⟩ = some (.string VT) ∧ Below w.heap.size w W) W' ∧ Below W.heap.size W W') := Lib.hid fun W hS => by
              refine (rtwo_any VT.size g4 W).mono ?_
              rintro e W' ⟨he, hb⟩
              exact ⟨by rw [he, hT0], hSt.out W W' hS hb, hb⟩
            have hS1 : w2.cell? ⟨g, off + i * 3, none⟩ = some (.string KT) ∧ w2.cell? ⟨g, off + i * 3 + 1, none⟩ = some (.string VT) ∧ Below w.heap.size w w2 := ⟨(hb2.cell (p := ⟨g, off + i * 3, none⟩) (by show g < w.heap.size; omega)).trans hk, (hb2.cell (p := ⟨g, off + i * 3 + 1, none⟩) (by show g < w.heap.size; omega)).trans hv, hb2⟩
            have hS1d := hSt.out _ _ hS1 (Below.drew (Below.refl _ w2))
            have ho2d : OwnB8 w.heap.size w2.drew v2 (acc ++ [0]) := ownsRow_below4 ho2 (Below.drew (Below.refl _ w2))
            have e1 : ¬ 9223372036854775807 < T1.size + T0.size := by omega
            have e2 : ¬ 9223372036854775807 < T1.size + T0.size + KT.size := by omega
            have e3 : ¬ 9223372036854775807 < T1.size + T0.size + KT.size + VT.size := by omega
            have HT1 := Lib.hid hT1
            have HT0 := Lib.hid hT0
            have Ho2 := Lib.hid ho2d
            have HS1d := Lib.hid hS1d
            clear hown hown2 hgrow2 happ hb2 ho2 hpk hpv hpg hT1 hT0 ho2d hS1d ht1 ht0
            go_wp2_with fail
            go_region_held3 (fun W => W.cell? ⟨g, off + i * 3, none⟩ = some (.string KT) ∧ W.cell? ⟨g, off + i * 3 + 1, none⟩ = some (.string VT) ∧ Below w.heap.size w W)
              (first | exact HS1d.out | assumption | exact hSt.out _ _ (by assumption) (Below.drew (Below.refl _ _)) | (trace_state; fail))
              (first
                | (go_at_call_of 32 (Value.int IntKind.i64 (KT.size : Int)); refine (hTw1.out _ ?_).mono ?_; assumption; rintro e w5 ⟨rfl, hS5, hB5⟩; have Ho5 := Lib.hid (ownsRow_below4 Ho2.out hB5); clear hB5)
                | (go_at_call_of 32 (Value.int IntKind.i64 (VT.size : Int)); refine (hTw0.out _ ?_).mono ?_; assumption; rintro e w6 ⟨rfl, hS6, hB6⟩; have Ho6 := Lib.hid (ownsRow_below4 Ho5.out hB6); clear hB6)
                | (refine step_append_text rfl _ _ rfl w.heap.size v2 (acc ++ [0]) rfl Ho6.out (two8 KT.size ++ two8 VT.size ++ c.key ++ c.val) (by rw [← show T1 ++ T0 ++ KT ++ VT = textQ (two8 KT.size ++ two8 VT.size ++ c.key ++ c.val) by rw [← HT1.out, ← HT0.out, ← HKT.out, ← HVT.out, text_append, text_append, text_append]]; rfl) HL.out hS6.2.2.size ?_; intro v7 w7 ho7 hgrow7; have hb7 := hS6.2.2.grown hgrow7 hS6.2.2.size (fun k hk => (row_block Ho6.out hk).1); have hS7 := hSb.out _ hb7; have Ho7 := Lib.hid ho7; clear ho7 hgrow7))
            rename_i hHeld
            clear hHeld
            have hz7 := hb7.size
            clear hTw1 hTw0 HS1d Ho2
            go_wp2
            go_roundw
            case rel => exact ⟨i + 1, by omega, by go_num, hf2, by rw [← HEq.out]; exact HLn.out, by rw [← HEq.out]; exact Ho7.out, hb7⟩
            case measure => simp [intOf]; omega
        · have g1 : ¬ (65535 : Int) < (KT.size : Int) := by omega
          have g2 : (65535 : Int) < (VT.size : Int) := by omega
          have Hr := Lib.hid (hnot.out fun hcf => hvf hcf.2)
          clear hks hvs
          go_wp2
          go_ret2
          exact ⟨by rw [Hr.out]; rfl, hbr⟩
      · have g1 : (65535 : Int) < (KT.size : Int) := by omega
        have Hr := Lib.hid (hnot.out fun hcf => hkf hcf.1)
        clear hks hvs
        go_wp2
        go_ret2
        exact ⟨by rw [Hr.out]; rfl, hbr⟩
    · obtain rfl : i = n := by omega
      rw [List.take_of_length_le (by rw [Hn.out]; exact Nat.le_refl _)] at hown hf
      have hcv := conv_own4 hown
      have hpv : printV l = .tuple #[.string (textQ (printL l)), .int .i64 0] := by
        unfold printV
        rw [if_pos]
        rw [List.all_eq_true]
        intro c hc
        have := hf.out c hc
        simp only [Bool.and_eq_true, decide_eq_true_eq]
        exact this
      have Hpv := Lib.hid hpv
      clear hpv hf
      go_wp2
      go_ret2
      exact ⟨by rw [Hpv.out]; rfl, hbr⟩
end Go.Proofs.YtcjmpkfcjcoobaaGreat
