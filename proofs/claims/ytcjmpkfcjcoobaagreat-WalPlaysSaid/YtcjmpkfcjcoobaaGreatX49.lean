/-
  Texts of this proof, put together: Few8.
-/
import Derived.Test.YtcjmpkfcjcoobaaGreatX48
import Derived.Test.YtcjmpkfcjcoobaaGreatX12
import Derived.Deep.QuietTactic
import Derived.BigQuiet
namespace Go.Proofs.YtcjmpkfcjcoobaaGreat
open Go.RowKit

/-- What a change counts. -/
def costC (c : Ch) : Nat := 1 + (min c.key.length 10000 + min c.val.length 10000) / 100
def costR : List Ch → Nat
  | [] => 0
  | c :: l => costC c + costR l
def costs : List (List Ch) → Nat
  | [] => 0
  | l :: ls => 1 + costR l + costs ls
theorem costR_append : ∀ a b : List Ch, costR (a ++ b) = costR a + costR b
  | [], b => by simp [costR]
  | c :: a, b => by rw [List.cons_append, costR, costR, costR_append a b]; omega
theorem costs_append : ∀ a b : List (List Ch), costs (a ++ b) = costs a + costs b
  | [], b => by simp [costs]
  | l :: a, b => by rw [List.cons_append, costs, costs, costs_append a b]; omega
theorem costR_take (l : List Ch) (i : Nat) (h : i < l.length) : costR (l.take (i + 1)) = costR (l.take i) + costC l[i] := by
  rw [List.take_succ_eq_append_getElem h, costR_append]
  simp [costR]
theorem costs_take (ls : List (List Ch)) (i : Nat) (h : i < ls.length) : costs (ls.take (i + 1)) = costs (ls.take i) + (1 + costR ls[i]) := by
  rw [List.take_succ_eq_append_getElem h, costs_append]
  simp [costs]
theorem costR_le (l : List Ch) (i : Nat) : costR (l.take i) ≤ costR l := by
  conv => rhs; rw [← List.take_append_drop i l, costR_append]
  omega
theorem costs_le (ls : List (List Ch)) (i : Nat) : costs (ls.take i) ≤ costs ls := by
  conv => rhs; rw [← List.take_append_drop i ls, costs_append]
  omega
theorem costR_len : ∀ l : List Ch, l.length ≤ costR l
  | [] => by simp [costR]
  | c :: l => by
    have := costR_len l
    rw [costR, List.length_cons]
    unfold costC
    omega
theorem costs_len : ∀ ls : List (List Ch), ls.length ≤ costs ls
  | [] => by simp [costs]
  | l :: ls => by
    have := costs_len ls
    rw [costs, List.length_cons]
    omega
theorem costR_mem {l : List Ch} {ls : List (List Ch)} (h : l ∈ ls) : 1 + costR l ≤ costs ls := by
  induction ls with
  | nil => cases h
  | cons x ls ih =>
    rw [costs]
    rcases List.mem_cons.1 h with rfl | h
    · omega
    · have := ih h
      omega
/-- What fits and counts little is no long text. -/
theorem cost_print : ∀ l : List Ch, (∀ c ∈ l, c.fits) → (printL l).length ≤ 705 * costR l
  | [], _ => by simp [printL]
  | c :: l, h => by
    have ih := cost_print l (fun c hc => h c (List.mem_cons_of_mem _ hc))
    obtain ⟨h1, h2⟩ := h c (List.mem_cons_self ..)
    have e : printL (c :: l) = printC c ++ printL l := by unfold printL; rw [List.flatMap_cons]
    have hs : c.says.length ≤ c.val.length := by
      unfold Ch.says
      split
      · simp
      · exact Nat.le_refl _
    rw [e, List.length_append, printC_len, costR]
    have hc : 5 + c.key.length + c.says.length ≤ 705 * costC c := by
      unfold costC
      omega
    omega

set_option maxRecDepth 100000 in
set_option maxHeartbeats 4000000 in
theorem few8_any (B : Nat) (v : Value) (ls : List (List Ch)) (w : World) (h : RowsAt w B v ls) (hB : B ≤ w.heap.size) (hls : ls.length ≤ 1000000000000000) (hsm : ∀ l ∈ ls, SmallC l) :
    Calls Tryz.prog 13 #[v] w fun e w' => e = .returned (.bool (decide (costs ls ≤ 120))) ∧ Below w.heap.size w w' := by
  obtain ⟨ao, cap, rfl, hc1, hc2, hat⟩ := h
  obtain ⟨y, hy⟩ : ∃ y, decide (costs ls ≤ 120) = y := ⟨_, rfl⟩
  rw [hy]
  have HY := Lib.hid hy
  have Hat := Lib.hid hat
  have Hsm := Lib.hid hsm
  obtain ⟨n, hn⟩ : ∃ n, ls.length = n := ⟨_, rfl⟩
  have Hn := Lib.hid hn
  rw [hn] at hc1 hls ⊢
  unfold maxLen at hc2
  clear hy hat hsm hn
  go_enter Tryz.func13, Tryz.ntmps13
  go_wp2
  go_loopw [3, 4] (fun nv iv wr => ∃ i : Nat, i ≤ n ∧ costs (ls.take i) ≤ 120 + i ∧ nv = .int .i64 (costs (ls.take i) : Nat) ∧ iv = .int .i64 i ∧ Below w.heap.size w wr) (fun _ iv _ => n - (intOf iv).toNat)
  case atStart => exact ⟨0, by omega, by simp [costs], rfl, rfl, Below.refl _ _⟩
  case round =>
    obtain ⟨i, hi, hle, rfl, rfl, hbr⟩ := hrel
    obtain ⟨t, ht⟩ : ∃ t, costs (ls.take i) = t := ⟨_, rfl⟩
    by_cases hlt : i < n
    · have hil : i < ls.length := by rw [Hn.out]; exact hlt
      have htk := costs_take ls i hil
      have hall := costs_le ls (i + 1)
      obtain ⟨g, off, v', rfl, hg, hcell, hch⟩ := Hat.out i hil
      have hsl := Hsm.out _ (List.getElem_mem hil)
      obtain ⟨l, hl⟩ : ∃ l, ls[i] = l := ⟨_, rfl⟩
      rw [hl] at hch hsl htk
      obtain ⟨ao', cap', rfl, hc1', hc2', hat'⟩ := hch
      rw [ht] at htk hle ⊢
      have Hat' := Lib.hid hat'
      have Hsl := Lib.hid hsl
      have Htk := Lib.hid htk
      have Hall := Lib.hid hall
      obtain ⟨m, hm⟩ : ∃ m, l.length = m := ⟨_, rfl⟩
      have Hm := Lib.hid hm
      rw [hm] at hcell hc1'
      unfold maxLen at hc2'
      have q0 := (hbr.cell (p := ⟨g, off + i, none⟩) (by show g < w.heap.size; omega)).trans hcell
      clear hat' hsl htk hall hm hl hcell ht
      have Hb := Lib.hid hbr
      have hgs : g < wr.heap.size := by have := hbr.size; omega
      clear hbr
      generalize wr = wi at *
      go_wp2
      go_loopw [3, 5] (fun nv kv wr => ∃ k : Nat, k ≤ m ∧ t + 1 + costR (l.take k) ≤ 121 + i ∧ nv = .int .i64 ((t + 1 + costR (l.take k) : Nat) : Int) ∧ kv = .int .i64 k ∧ Below w.heap.size w wr ∧ wr.cell? ⟨g, off + i, none⟩ = some (.slice ao' m cap')) (fun _ kv _ => m - (intOf kv).toNat)
      case atStart => exact ⟨0, by omega, by simp [costR]; omega, by simp [costR], rfl, Hb.out, q0⟩
      case round =>
        obtain ⟨k, hk, hle2, rfl, rfl, hb2, q1⟩ := hrel
        by_cases hklt : k < m
        · have hkl : k < l.length := by rw [Hm.out]; exact hklt
          have hck := costR_take l k hkl
          have hRle := costR_le l (k + 1)
          obtain ⟨g2, off2, rfl, hg2, z0, z1, _⟩ := Hat'.out k hkl
          obtain ⟨s0, s1⟩ := Hsl.out _ (List.getElem_mem hkl)
          obtain ⟨c, hc⟩ : ∃ c, l[k] = c := ⟨_, rfl⟩
          rw [hc] at z0 z1 s0 s1 hck
          obtain ⟨r, hr⟩ : ∃ r, costR (l.take k) = r := ⟨_, rfl⟩
          rw [hr] at hck hle2 ⊢
          have hg3 : g2 < w.heap.size := by omega
          have p0 := (hb2.cell (p := ⟨g2, off2 + k * 3, none⟩) hg3).trans z0
          have p1 := (hb2.cell (p := ⟨g2, off2 + k * 3 + 1, none⟩) hg3).trans z1
          have hg4 : g2 < wr.heap.size := by have := hb2.size; omega
          obtain ⟨K, hK⟩ : ∃ K, textQ c.key = K := ⟨_, rfl⟩
          obtain ⟨V, hV⟩ : ∃ V, textQ c.val = V := ⟨_, rfl⟩
          have hKs : K.size = c.key.length := by rw [← hK]; rfl
          have hVs : V.size = c.val.length := by rw [← hV]; rfl
          rw [hK] at p0
          rw [hV] at p1
          unfold costC at hck
          rw [← hKs, ← hVs] at hck
          rw [← hKs] at s0
          rw [← hVs] at s1
          unfold maxLen at s0 s1
          have hmn : min K.size 10000 ≤ 10000 ∧ min V.size 10000 ≤ 10000 := ⟨Nat.min_le_right .., Nat.min_le_right ..⟩
          have hno : 120 < t + 1 + r + (1 + (min K.size 10000 + min V.size 10000) / 100) → decide (costs ls ≤ 120) = false := fun h => decide_eq_false (by
            have := Htk.out
            have := Hall.out
            omega)
          have Hck := Lib.hid hck
          have Hno := Lib.hid hno
          have Hb2 := Lib.hid hb2
          clear hno hck hRle hr hc z0 z1 hK hV hKs hVs hb2
          by_cases h120 : 120 < t + 1 + r + (1 + (min K.size 10000 + min V.size 10000) / 100)
          · have Hf := Lib.hid (Hno.out h120)
            go_wp2_with fail
            --@a
            go_quiet (fail)
            --@b
            have hb3 := below_drewN Hb2.out nq
            go_wp2
            go_ret
            exact ⟨by rw [← HY.out, Hf.out]; rfl, hb3⟩
          · go_wp2_with fail
            go_quiet (fail)
            have hb3 := below_drewN Hb2.out nq
            go_wp2
            go_roundw
            case rel => exact ⟨k + 1, by omega, by rw [Hck.out]; omega, by rw [Hck.out]; congr 1; push_cast; omega, by go_num, hb3, q1⟩
            case measure => simp [intOf]; omega
        · obtain rfl : k = m := by omega
          rw [show l.take k = l from List.take_of_length_le (by rw [Hm.out]; exact Nat.le_refl _)] at hle2 ⊢
          have he := Htk.out
          go_wp2
          go_roundw
          case rel => exact ⟨i + 1, by omega, by rw [he]; omega, by rw [he]; congr 1; push_cast; omega, by go_num, hb2⟩
          case measure => simp [intOf]; omega
    · obtain rfl : i = n := by omega
      rw [show ls.take i = ls from List.take_of_length_le (by rw [Hn.out]; exact Nat.le_refl _)] at ht hle ⊢
      rw [ht] at hle ⊢
      have Hf : Hid (decide (costs ls ≤ 120) = decide (t ≤ 120)) := Lib.hid (by rw [ht])
      clear ht
      go_wp2
      go_ret
      refine ⟨?_, hbr⟩
      rw [← HY.out, Hf.out]
      have hd : decide ((t : Int) ≤ 120) = decide (t ≤ 120) := by
        rw [decide_eq_decide]
        omega
      rw [← hd]
      rfl
end Go.Proofs.YtcjmpkfcjcoobaaGreat
