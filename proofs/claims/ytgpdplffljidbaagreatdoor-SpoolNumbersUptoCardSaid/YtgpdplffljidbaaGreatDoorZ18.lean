/-
  Texts of this proof, put together: St4.
-/
import Derived.Test.YtgpdplffljidbaaGreatDoorZ17
import Derived.Test.YtgpdplffljidbaaGreatDoorZ10
import Derived.BigQuiet
import Derived.OwnWalk
namespace Go.Proofs.YtgpdplffljidbaaGreatDoor
open Go.RowKit

theorem bytes_two8 (n : Nat) : bytesN n 2 = two8 n := by simp [bytesN, two8]
theorem printV_not {l : List Ch} {c : Ch} (h : c ∈ l) (hf : ¬ c.fits) : printV l = .tuple #[.string ⟨#[]⟩, .int .i64 3] := by
  unfold printV
  rw [if_neg]
  intro hall
  have := List.all_eq_true.1 hall c h
  simp only [Bool.and_eq_true, decide_eq_true_eq] at this
  exact hf this
theorem printV_fit {l : List Ch} (h : ∀ c ∈ l, c.fits) : printV l = .tuple #[.string (textQ (printL l)), .int .i64 0] := by
  unfold printV
  rw [if_pos]
  refine List.all_eq_true.2 fun c hc => ?_
  have := h c hc
  simp only [Bool.and_eq_true, decide_eq_true_eq]
  exact this
theorem print_take (l : List Ch) (i : Nat) : (printL (l.take i)).length ≤ (printL l).length := by
  conv => rhs; rw [← List.take_append_drop i l]
  rw [printL, printL, List.flatMap_append, List.length_append]
  omega

set_option maxRecDepth 100000 in
set_option maxHeartbeats 4000000 in
theorem print_all (B : Nat) (v : Value) (l : List Ch) (w : World) (h : ChsAt w B v l) (hB : B ≤ w.heap.size) (hl : l.length ≤ 100000) (hp : (∀ c ∈ l, c.fits) → (printL l).length ≤ 50000000) :
    Calls Tryz.prog 38 #[v] w fun e w' => e = .returned (printV l) ∧ Below w.heap.size w w' := by
  obtain ⟨i0, hi0, hz00, hz10, hz20⟩ := info_parts infoB4
  obtain ⟨ao, cap, rfl, hc1, hc2, hat⟩ := h
  have Hat := Lib.hid hat
  have Hp := Lib.hid hp
  clear hat hp
  obtain ⟨n, hn⟩ : ∃ n, l.length = n := ⟨_, rfl⟩
  have Hn := Lib.hid hn
  rw [hn] at hl hc1 ⊢
  clear hn hc2
  go_enter Tryz.func38, Tryz.ntmps38
  go_wp2
  go_loopw [4, 14] (fun sv iv wr => ∃ i s : Nat, i ≤ n ∧ iv = .int .i64 i ∧ sv = .int .i64 s ∧ s ≤ 131075 * i ∧ Hid (∀ c ∈ l.take i, c.fits) ∧ Below w.heap.size w wr) (fun _ iv _ => n - (intOf iv).toNat)
  case atStart => exact ⟨0, 0, by omega, rfl, rfl, by omega, Lib.hid (fun c hc => by cases hc), Below.refl _ _⟩
  case round =>
    obtain ⟨i, s, hi, rfl, rfl, hs, hf, hbr⟩ := hrel
    have hbz := hbr.size
    by_cases hlt : i < n
    · obtain ⟨g, off, rfl, hg, hk, hv, hgo⟩ := Hat.out i (by rw [Hn.out]; exact hlt)
      have hil : i < l.length := by rw [Hn.out]; exact hlt
      have htk : l.take (i + 1) = l.take i ++ [l[i]] := by rw [List.take_succ_eq_append_getElem hil]
      have hmem : l[i] ∈ l := List.getElem_mem hil
      obtain ⟨c, hc⟩ : ∃ c, l[i] = c := ⟨_, rfl⟩
      rw [hc] at hk hv hgo htk hmem
      obtain ⟨KT, hKT⟩ : ∃ KT, textQ c.key = KT := ⟨_, rfl⟩
      obtain ⟨VT, hVT⟩ : ∃ VT, textQ c.val = VT := ⟨_, rfl⟩
      have hks : KT.size = c.key.length := by rw [← hKT]; rfl
      have hvs : VT.size = c.val.length := by rw [← hVT]; rfl
      rw [hKT] at hk
      rw [hVT] at hv
      have hpk : wr.cell? ⟨g, off + i * 3, none⟩ = some (.string KT) := (hbr.cell (p := ⟨g, off + i * 3, none⟩) (by show g < w.heap.size; omega)).trans hk
      have hpv : wr.cell? ⟨g, off + i * 3 + 1, none⟩ = some (.string VT) := (hbr.cell (p := ⟨g, off + i * 3 + 1, none⟩) (by show g < w.heap.size; omega)).trans hv
      have hpg : wr.cell? ⟨g, off + i * 3 + 2, none⟩ = some (.bool c.gone) := (hbr.cell (p := ⟨g, off + i * 3 + 2, none⟩) (by show g < w.heap.size; omega)).trans hgo
      by_cases hfit : c.fits
      · have g3 : KT.size ≤ 65535 := by rw [hks]; exact hfit.1
        have g4 : VT.size ≤ 65535 := by rw [hvs]; exact hfit.2
        have g1 : ¬ (65535 : Int) < (KT.size : Int) := by omega
        have g2 : ¬ (65535 : Int) < (VT.size : Int) := by omega
        have hf2 : Hid (∀ x ∈ l.take (i + 1), x.fits) := Lib.hid fun x hx => by
          rw [htk] at hx
          rcases List.mem_append.1 hx with hx | hx
          · exact hf.out x hx
          · rw [List.mem_singleton.1 hx]; exact hfit
        have hbn : Below w.heap.size w (wr.alloc (.cells #[.string KT, .string VT, .bool c.gone] 50)) := hbr.alloc hbz _
        have Hbn := Lib.hid hbn
        clear hbn hf hmem hks hvs hKT hVT hc htk hfit hk hv hgo
        go_wp2
        --@a
        go_roundw
        case rel => exact ⟨i + 1, s + (5 + KT.size + VT.size), by omega, by go_num, by go_num, by omega, hf2, Hbn.out⟩
        case measure => simp [intOf]; omega
      · have hno := printV_not hmem hfit
        have Hno := Lib.hid hno
        have hbn : Below w.heap.size w (wr.alloc (.cells #[.string KT, .string VT, .bool c.gone] 50)) := hbr.alloc hbz _
        have Hbn := Lib.hid hbn
        have hcase : KT.size ≤ 65535 → 65535 < VT.size := fun hk => by
          rw [hks] at hk
          rw [hvs]
          exact Nat.lt_of_not_le fun hv => hfit ⟨hk, hv⟩
        clear hno hbn hf hmem hks hvs hKT hVT hc htk hfit hk hv hgo
        by_cases g5 : KT.size ≤ 65535
        · have g1 : ¬ (65535 : Int) < (KT.size : Int) := by omega
          have g2 : (65535 : Int) < (VT.size : Int) := by have := hcase g5; omega
          clear hcase
          go_wp2
          --@b
          go_ret2
          exact ⟨by rw [Hno.out]; rfl, Hbn.out⟩
        · have g1 : (65535 : Int) < (KT.size : Int) := by omega
          clear hcase
          go_wp2
          --@c
          go_ret2
          exact ⟨by rw [Hno.out]; rfl, Hbn.out⟩
    · obtain rfl : n = i := by omega
      have hf : Hid (∀ c ∈ l, c.fits) := Lib.hid fun c hc => hf.out c (by rw [List.take_of_length_le (by rw [Hn.out]; exact Nat.le_refl _)]; exact hc)
      obtain ⟨w2, hmk, hown2, hgrow2⟩ := run_make_own (P := Tryz.prog) wr w.heap.size 65 5 i0 (.int .u8 0) 1 Tryz.underlying65 hi0 hz00 hz10 .i64 .i64 s (by rw [hz20]; omega) (by unfold maxLen; omega) hbr.size
      have hb2 : Below w.heap.size w w2 := hbr.grown hgrow2 (by omega) fun k hk => by cases hk
      have hb2z := hb2.size
      clear hgrow2 hbr hbz
      go_wp2
      go_loopw [7, 43] (fun o iv wr => ∃ i : Nat, i ≤ n ∧ iv = .int .i64 i ∧ OwnB9 w.heap.size wr o (printL (l.take i)) ∧ Below w.heap.size w wr) (fun _ iv _ => n - (intOf iv).toNat)
      case atStart => exact ⟨0, by omega, rfl, hown2, hb2⟩
      case round =>
        obtain ⟨i, hi, rfl, hown, hbr⟩ := hrel
        have hbz := hbr.size
        clear hown2 hb2 hb2z hs
        by_cases hlt : i < n
        · obtain ⟨g, off, rfl, hg, hk, hv, hgo⟩ := Hat.out i (by rw [Hn.out]; exact hlt)
          have hil : i < l.length := by rw [Hn.out]; exact hlt
          have htk : l.take (i + 1) = l.take i ++ [l[i]] := by rw [List.take_succ_eq_append_getElem hil]
          have hfit := hf.out l[i] (List.getElem_mem hil)
          have hpt := print_take l (i + 1)
          have hpl := Hp.out hf.out
          obtain ⟨c, hc⟩ : ∃ c, l[i] = c := ⟨_, rfl⟩
          rw [hc] at hk hv hgo htk hfit
          obtain ⟨KT, hKT⟩ : ∃ KT, textQ c.key = KT := ⟨_, rfl⟩
          obtain ⟨VT, hVT⟩ : ∃ VT, textQ c.val = VT := ⟨_, rfl⟩
          have hks : KT.size = c.key.length := by rw [← hKT]; rfl
          have hvs : VT.size = c.val.length := by rw [← hVT]; rfl
          rw [hKT] at hk
          rw [hVT] at hv
          have hpk : wr.cell? ⟨g, off + i * 3, none⟩ = some (.string KT) := (hbr.cell (p := ⟨g, off + i * 3, none⟩) (by show g < w.heap.size; omega)).trans hk
          have hpv : wr.cell? ⟨g, off + i * 3 + 1, none⟩ = some (.string VT) := (hbr.cell (p := ⟨g, off + i * 3 + 1, none⟩) (by show g < w.heap.size; omega)).trans hv
          have hpg : wr.cell? ⟨g, off + i * 3 + 2, none⟩ = some (.bool c.gone) := (hbr.cell (p := ⟨g, off + i * 3 + 2, none⟩) (by show g < w.heap.size; omega)).trans hgo
          have hnx : printL (l.take (i + 1)) = printL (l.take i) ++ printC c := by
            rw [htk]
            simp [printL]
          obtain ⟨acc, hacc⟩ : ∃ acc, printL (l.take i) = acc := ⟨_, rfl⟩
          rw [hacc] at hown hnx
          rw [hnx, List.length_append, printC_len] at hpt
          have hal : acc.length ≤ 50000000 := by omega
          have g3 : KT.size ≤ 65535 := by rw [hks]; exact hfit.1
          have g4 : VT.size ≤ 65535 := by rw [hvs]; exact hfit.2
          obtain ⟨gn, hgn⟩ : ∃ gn, c.gone = gn := ⟨_, rfl⟩
          rw [hgn] at hpg
          have Hpr := Lib.hid (And.intro hnx (And.intro hgn (And.intro hKT (And.intro hVT (And.intro hks hvs)))))
          have hne : ¬ u7.ownBlock = some wr.heap.size := fun e => by
            obtain ⟨_, cur, hcr⟩ := row_block hown e
            exact absurd (Array.getElem?_eq_some_iff.1 hcr).1 (Nat.lt_irrefl _)
          have hrow := World.ownsRow.alloc hown (.cells #[.string KT, .string VT, .bool gn] 50)
          have hba := hbr.alloc hbz (.cells #[.string KT, .string VT, .bool gn] 50)
          clear hc hil hacc hKT hVT hks hvs hgn hnx hpt hpl htk hfit hk hv hgo hown
          cases gn with
          | true =>
            go_wp2
            --@q0
            go_quiet (fail)
            --@q1
            have hrow1 := (Turned.of_below (S := fun _ => False) (below_drewN (Below.refl _ (wr.alloc (.cells #[.string KT, .string VT, .bool true] 50))) nq) (Nat.le_refl _)).row hrow (fun _ _ h => h)
            have hba1 := below_drewN hba nq
            have hbx1 : Held9 ((wr.alloc (.cells #[.string KT, .string VT, .bool true] 50)).drewN nq) wr.heap.size #[.string KT, .string VT, .bool true] 50 := by
              unfold Held9
              rw [World.heap_drewN]
              exact heap_alloc_new _ _
            have hz1 : wr.heap.size + 1 = ((wr.alloc (.cells #[.string KT, .string VT, .bool true] 50)).drewN nq).heap.size := by rw [World.heap_drewN]; simp
            obtain ⟨W1, hW1⟩ : ∃ W1, (wr.alloc (.cells #[.string KT, .string VT, .bool true] 50)).drewN nq = W1 := ⟨_, rfl⟩
            rw [hW1] at hrow1 hba1 hbx1 hz1 ⊢
            have k90 := hbx1.cell 0
            have k91 := hbx1.cell 1
            have k92 := hbx1.cell 2
            simp only [List.getElem?_toArray, List.getElem?_cons_succ, List.getElem?_cons_zero] at k90 k91 k92
            have happ := hrow1.alloc (.cells #[.int .u8 1] 5)
            clear hrow hba hpk hpv hpg hW1 hrow1
            --@q2
            go_wp2_with (at_builtin; refine wpList_append_b rfl _ _ rfl w.heap.size u7 acc (1 : UInt8) rfl happ (by simp; omega) (by omega) W1.heap.size 1 rfl ?n1 ?_)
            case n1 => go_simp
            --@t1
            intro v2 w2 hown2 ht2 hf2
            have hb2 : Below w.heap.size w w2 := (hba1.alloc (by omega) _).trans (ht2.below (by simp; omega) fun b e => (row_block happ e).1)
            have hbx2 : Held9 w2 wr.heap.size #[.string KT, .string VT, .bool true] 50 := (hbx1.alloc _).of_turned ht2 hne
            have hne2 : ¬ v2.ownBlock = some wr.heap.size := fun e => (hf2 _ e).elim hne (fun h => by simp at h; omega)
            have hz2 : wr.heap.size < w2.heap.size := hbx2.lt
            have hS2 : ∀ b, v2.ownBlock = some b → w.heap.size ≤ b := fun b e => (row_block hown2 e).1
            have hA1 := appn_of w.heap.size v2 (acc ++ [(1 : UInt8)]) KT.size 2 (by omega) (KT.size : Int) 2 rfl rfl w2 hown2 hb2.size (by simp; omega)
            have k290 := hbx2.cell 0
            simp only [List.getElem?_toArray, List.getElem?_cons_zero] at k290
            clear hown2 ht2 hf2 hba1 happ k90 k91 k92 hbx1 hz1
            go_wp2_with (go_at_call 63; with_reducible refine hA1.mono ?_; rintro e w3 ⟨v3, rfl, hown3, ht3, hf3⟩)
            --@t2
            have hb3 : Below w.heap.size w w3 := hb2.trans (ht3.below hb2.size fun b e => hS2 b e)
            have hbx3 : Held9 w3 wr.heap.size #[.string KT, .string VT, .bool true] 50 := hbx2.of_turned ht3 hne2
            have hS3 : ∀ b, v3.ownBlock = some b → w.heap.size ≤ b := fun b e => (row_block hown3 e).1
            have hne3 : ¬ v3.ownBlock = some wr.heap.size := fun e => (hf3 _ e).elim hne2 (fun h => by omega)
            have hA2 := appn_of w.heap.size v3 (acc ++ [(1 : UInt8)] ++ bytesN KT.size 2) ((⟨#[]⟩ : ByteArray)).size 2 (by omega) 0 2 rfl rfl w3 hown3 hb3.size (by simp [bytesN_len]; omega)
            clear hown3 ht3 hf3 hbx2 hne2 hA1 hS2
            with_reducible refine hA2.mono ?_
            rintro e w4 ⟨v4, rfl, hown4, ht4, hf4⟩
            have hb4 : Below w.heap.size w w4 := hb3.trans (ht4.below hb3.size fun b e => hS3 b e)
            have hbx4 : Held9 w4 wr.heap.size #[.string KT, .string VT, .bool true] 50 := hbx3.of_turned ht4 hne3
            have k490 := hbx4.cell 0
            simp only [List.getElem?_toArray, List.getElem?_cons_zero] at k490
            have hl4 : (acc ++ [(1 : UInt8)] ++ bytesN KT.size 2 ++ bytesN ((⟨#[]⟩ : ByteArray)).size 2).length = acc.length + 5 := by simp [bytesN_len]
            have hb4z := hb4.size
            obtain ⟨A4, hA4⟩ : ∃ A4, acc ++ [(1 : UInt8)] ++ bytesN KT.size 2 ++ bytesN ((⟨#[]⟩ : ByteArray)).size 2 = A4 := ⟨_, rfl⟩
            rw [hA4] at hown4 hl4
            have HA4 := Lib.hid hA4
            clear hA2 hA4 ht4 hf4 hbx3 hne3 hS3 hb3 hb2 k290
            go_wp2_with (at_builtin; refine Lib.wpList_append_own_string _ rfl _ _ 65 9 rfl w.heap.size 5 i0 Tryz.underlying65 Tryz.underlying9 hi0 hz00 hz10 hz20 _ _ _ rfl hown4 KT rfl ?sx ?tx ?ux ?_)
            case sx => unfold maxLen; omega
            case tx => omega
            case ux => omega
            intro v5 w5 hown5 hgrow5 _
            have hb5 : Below w.heap.size w w5 := hb4.grown hgrow5 (by omega) fun k hk => (row_block hown4 hk).1
            have hb5z := hb5.size
            clear hown4 hgrow5 hb4 hb4z hbx4 k490
            go_wp2_with (at_builtin; refine Lib.wpList_append_own_string _ rfl _ _ 65 9 rfl w.heap.size 5 i0 Tryz.underlying65 Tryz.underlying9 hi0 hz00 hz10 hz20 _ _ _ rfl hown5 (⟨#[]⟩ : ByteArray) rfl ?sx ?tx ?ux ?_)
            case sx => unfold maxLen; have e0 : (⟨#[]⟩ : ByteArray).size = 0 := rfl; omega
            case tx => have e0 : (⟨#[]⟩ : ByteArray).size = 0 := rfl; omega
            case ux => omega
            intro v6 w6 hown6 hgrow6 _
            have hb6 : Below w.heap.size w w6 := hb5.grown hgrow6 (by omega) fun k hk => (row_block hown5 hk).1
            have hrow6 : OwnB9 w.heap.size w6 v6 (printL (l.take (i + 1))) := by
              obtain ⟨hnx, hgn, hKT, hVT, hks, hvs⟩ := Hpr.out
              have e1 : printL (l.take (i + 1)) = A4 ++ KT.data.toList ++ ((⟨#[]⟩ : ByteArray)).data.toList := by
                rw [hnx, ← HA4.out, bytes_two8, bytes_two8, hks]
                unfold printC Ch.says
                rw [hgn, ← hKT]
                simp [textQ]
                rfl
              have e2 : (A4 ++ (KT.data.toList ++ ((⟨#[]⟩ : ByteArray)).data.toList)).length = acc.length + 5 + KT.size + ((⟨#[]⟩ : ByteArray)).size := by
                rw [List.length_append, List.length_append, hl4, Nat.add_assoc (acc.length + 5)]
                rfl
              unfold OwnB9
              rw [e1, List.append_assoc, e2, Lib.byteCells_append, Lib.byteCells_append, ← Lib.strCells_eq, ← Lib.strCells_eq]
              exact hown6
            clear hown5 hown6 hgrow6 hb5 hb5z
            go_wp2
            go_roundw
            case rel => exact ⟨i + 1, by omega, by go_num, hrow6, hb6⟩
            case measure => simp [intOf]; omega
          | false =>
            go_wp2
            go_quiet (fail)
            have hrow1 := (Turned.of_below (S := fun _ => False) (below_drewN (Below.refl _ (wr.alloc (.cells #[.string KT, .string VT, .bool false] 50))) nq) (Nat.le_refl _)).row hrow (fun _ _ h => h)
            have hba1 := below_drewN hba nq
            have hbx1 : Held9 ((wr.alloc (.cells #[.string KT, .string VT, .bool false] 50)).drewN nq) wr.heap.size #[.string KT, .string VT, .bool false] 50 := by
              unfold Held9
              rw [World.heap_drewN]
              exact heap_alloc_new _ _
            have hz1 : wr.heap.size + 1 = ((wr.alloc (.cells #[.string KT, .string VT, .bool false] 50)).drewN nq).heap.size := by rw [World.heap_drewN]; simp
            obtain ⟨W1, hW1⟩ : ∃ W1, (wr.alloc (.cells #[.string KT, .string VT, .bool false] 50)).drewN nq = W1 := ⟨_, rfl⟩
            rw [hW1] at hrow1 hba1 hbx1 hz1 ⊢
            have k90 := hbx1.cell 0
            have k91 := hbx1.cell 1
            have k92 := hbx1.cell 2
            simp only [List.getElem?_toArray, List.getElem?_cons_succ, List.getElem?_cons_zero] at k90 k91 k92
            have happ := hrow1.alloc (.cells #[.int .u8 0] 5)
            clear hrow hba hpk hpv hpg hW1 hrow1
            go_wp2_with (at_builtin; refine wpList_append_b rfl _ _ rfl w.heap.size u7 acc (0 : UInt8) rfl happ (by simp; omega) (by omega) W1.heap.size 1 rfl ?n1 ?_)
            case n1 => go_simp
            --@f1
            intro v2 w2 hown2 ht2 hf2
            have hb2 : Below w.heap.size w w2 := (hba1.alloc (by omega) _).trans (ht2.below (by simp; omega) fun b e => (row_block happ e).1)
            have hbx2 : Held9 w2 wr.heap.size #[.string KT, .string VT, .bool false] 50 := (hbx1.alloc _).of_turned ht2 hne
            have hne2 : ¬ v2.ownBlock = some wr.heap.size := fun e => (hf2 _ e).elim hne (fun h => by simp at h; omega)
            have hz2 : wr.heap.size < w2.heap.size := hbx2.lt
            have hS2 : ∀ b, v2.ownBlock = some b → w.heap.size ≤ b := fun b e => (row_block hown2 e).1
            have hA1 := appn_of w.heap.size v2 (acc ++ [(0 : UInt8)]) KT.size 2 (by omega) (KT.size : Int) 2 rfl rfl w2 hown2 hb2.size (by simp; omega)
            have k290 := hbx2.cell 0
            simp only [List.getElem?_toArray, List.getElem?_cons_zero] at k290
            clear hown2 ht2 hf2 hba1 happ k90 k91 k92 hbx1 hz1
            go_wp2_with (go_at_call 63; with_reducible refine hA1.mono ?_; rintro e w3 ⟨v3, rfl, hown3, ht3, hf3⟩)
            --@f2
            have hb3 : Below w.heap.size w w3 := hb2.trans (ht3.below hb2.size fun b e => hS2 b e)
            have hbx3 : Held9 w3 wr.heap.size #[.string KT, .string VT, .bool false] 50 := hbx2.of_turned ht3 hne2
            have hS3 : ∀ b, v3.ownBlock = some b → w.heap.size ≤ b := fun b e => (row_block hown3 e).1
            have hne3 : ¬ v3.ownBlock = some wr.heap.size := fun e => (hf3 _ e).elim hne2 (fun h => by omega)
            have hA2 := appn_of w.heap.size v3 (acc ++ [(0 : UInt8)] ++ bytesN KT.size 2) (VT).size 2 (by omega) (VT.size : Int) 2 rfl rfl w3 hown3 hb3.size (by simp [bytesN_len]; omega)
            clear hown3 ht3 hf3 hbx2 hne2 hA1 hS2
            with_reducible refine hA2.mono ?_
            rintro e w4 ⟨v4, rfl, hown4, ht4, hf4⟩
            have hb4 : Below w.heap.size w w4 := hb3.trans (ht4.below hb3.size fun b e => hS3 b e)
            have hbx4 : Held9 w4 wr.heap.size #[.string KT, .string VT, .bool false] 50 := hbx3.of_turned ht4 hne3
            have k490 := hbx4.cell 0
            simp only [List.getElem?_toArray, List.getElem?_cons_zero] at k490
            have hl4 : (acc ++ [(0 : UInt8)] ++ bytesN KT.size 2 ++ bytesN (VT).size 2).length = acc.length + 5 := by simp [bytesN_len]
            have hb4z := hb4.size
            obtain ⟨A4, hA4⟩ : ∃ A4, acc ++ [(0 : UInt8)] ++ bytesN KT.size 2 ++ bytesN (VT).size 2 = A4 := ⟨_, rfl⟩
            rw [hA4] at hown4 hl4
            have HA4 := Lib.hid hA4
            clear hA2 hA4 ht4 hf4 hbx3 hne3 hS3 hb3 hb2 k290
            go_wp2_with (at_builtin; refine Lib.wpList_append_own_string _ rfl _ _ 65 9 rfl w.heap.size 5 i0 Tryz.underlying65 Tryz.underlying9 hi0 hz00 hz10 hz20 _ _ _ rfl hown4 KT rfl ?sx ?tx ?ux ?_)
            case sx => unfold maxLen; omega
            case tx => omega
            case ux => omega
            intro v5 w5 hown5 hgrow5 _
            have hb5 : Below w.heap.size w w5 := hb4.grown hgrow5 (by omega) fun k hk => (row_block hown4 hk).1
            have hb5z := hb5.size
            clear hown4 hgrow5 hb4 hb4z hbx4 k490
            go_wp2_with (at_builtin; refine Lib.wpList_append_own_string _ rfl _ _ 65 9 rfl w.heap.size 5 i0 Tryz.underlying65 Tryz.underlying9 hi0 hz00 hz10 hz20 _ _ _ rfl hown5 VT rfl ?sx ?tx ?ux ?_)
            case sx => unfold maxLen; omega
            case tx => omega
            case ux => omega
            intro v6 w6 hown6 hgrow6 _
            have hb6 : Below w.heap.size w w6 := hb5.grown hgrow6 (by omega) fun k hk => (row_block hown5 hk).1
            have hrow6 : OwnB9 w.heap.size w6 v6 (printL (l.take (i + 1))) := by
              obtain ⟨hnx, hgn, hKT, hVT, hks, hvs⟩ := Hpr.out
              have e1 : printL (l.take (i + 1)) = A4 ++ KT.data.toList ++ (VT).data.toList := by
                rw [hnx, ← HA4.out, bytes_two8, bytes_two8, hks]
                unfold printC Ch.says
                rw [hgn,  ← hKT, ← hVT]
                simp [textQ]
                rfl
              have e2 : (A4 ++ (KT.data.toList ++ (VT).data.toList)).length = acc.length + 5 + KT.size + (VT).size := by
                rw [List.length_append, List.length_append, hl4, Nat.add_assoc (acc.length + 5)]
                rfl
              unfold OwnB9
              rw [e1, List.append_assoc, e2, Lib.byteCells_append, Lib.byteCells_append, ← Lib.strCells_eq, ← Lib.strCells_eq]
              exact hown6
            clear hown5 hown6 hgrow6 hb5 hb5z
            go_wp2
            go_roundw
            case rel => exact ⟨i + 1, by omega, by go_num, hrow6, hb6⟩
            case measure => simp [intOf]; omega
        · obtain rfl : n = i := by omega
          rw [List.take_of_length_le (by rw [Hn.out]; exact Nat.le_refl _)] at hown
          have hcv := conv_own4 hown
          have hpf := printV_fit hf.out
          have Hpf := Lib.hid hpf
          clear hpf hown
          go_wp2
          --@f
          go_ret2
          exact ⟨by rw [Hpf.out]; rfl, hbr⟩
theorem print_any (B : Nat) (v : Value) (l : List Ch) (w : World) (h : ChsAt w B v l) (hB : B ≤ w.heap.size) (hl : l.length ≤ 100000) (hp : (printL l).length ≤ 50000000) :
    Calls Tryz.prog 38 #[v] w fun e w' => e = .returned (printV l) ∧ Below w.heap.size w w' := print_all B v l w h hB hl fun _ => hp
end Go.Proofs.YtgpdplffljidbaaGreatDoor
