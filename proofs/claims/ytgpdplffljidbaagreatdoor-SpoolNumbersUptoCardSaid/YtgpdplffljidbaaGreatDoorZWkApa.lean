/-
  SpoolApart returns true, for any items and any two texts: the walk.
-/
import Derived.Test.YtgpdplffljidbaaGreatDoorZWkRdy
import Derived.Test.YtgpdplffljidbaaGreatDoorZ39
import Derived.BigQuiet
namespace Go.Proofs.YtgpdplffljidbaaGreatDoor
open Go.RowKit Go.Maps

def addC (l : List ItemS) : List Ch × Int := if l.any (fun x => !rightS x) then ([], 1) else (addS 0 l, 0)
def addL (l : List ItemS) : List ItemS := if l.any (fun x => !rightS x) then [] else nextS 0 l
theorem any_bad {l : List ItemS} (h : l.any (fun x => !rightS x) = true) : ∃ x ∈ l, rightS x = false := by
  obtain ⟨x, hx, e⟩ := List.any_eq_true.1 h
  exact ⟨x, hx, by simpa using e⟩
theorem any_good {l : List ItemS} (h : l.any (fun x => !rightS x) = false) : ∀ x ∈ l, rightS x = true := fun x hx => by
  have := List.any_eq_false.1 h x hx
  simpa using this
theorem addc_any {w0 W : World} {N Nd g sz used c : Nat} {d : Dk} {ps : List PairP} (h : LawQ w0 W N Nd g sz used c d ps [] 0) (B : Nat) (v : Value) (l : List ItemS) (hv : ItemsAt W B v l) (hB : B ≤ W.heap.size) (hl : l.length ≤ 1000) :
    Calls Tryz.prog 12 #[.pointer (some ⟨N, 0, none⟩), v] W fun e w' => ∃ ao cap, e = .returned (.tuple #[.slice ao (addC l).1.length cap, .int .i64 (addC l).2]) ∧ OwnC9 W.heap.size w' (.slice ao (addC l).1.length cap) (addC l).1 ∧ Below W.heap.size W w' := by
  unfold addC
  cases ha : l.any (fun x => !rightS x) with
  | true =>
    rw [if_pos rfl]
    refine (sadd_bad W _ B v l hv hB (any_bad ha)).mono ?_
    rintro e w' ⟨rfl, hb⟩
    exact ⟨none, 0, rfl, World.ownsRow_nil _ _ _ _, hb⟩
  | false =>
    rw [if_neg (by simp)]
    refine (lawq_add h B v l hv hB (any_good ha) (by omega)).mono ?_
    rintro e w' ⟨ao, n, cap, rfl, rfl, ho, hb⟩
    exact ⟨ao, cap, rfl, ho, hb⟩
theorem addc_facts {l : List ItemS} (hl : l.length ≤ 15) (ht : ∀ x ∈ l, x.tx.length ≤ 500) : (addC l).1.length ≤ 16 ∧ (printL (addC l).1).length ≤ 20000 ∧ (∀ c ∈ (addC l).1, c.fits) ∧ (∀ c ∈ (addC l).1, c.key.head? = some 113) ∧ (addL l).length ≤ 15 ∧
    (∀ ps : List PairP, QueueP ps [] 0 → ∃ last, QueueP (behindP ps (addC l).1) (addL l) last) := by
  unfold addC addL
  cases ha : l.any (fun x => !rightS x) with
  | true =>
    simp only [if_true]
    exact ⟨by simp, by show (0 : Nat) ≤ _; omega, by simp, by simp, by simp, fun ps h => ⟨0, h⟩⟩
  | false =>
    simp only [Bool.false_eq_true, if_false]
    have hr := any_good ha
    have hb := bytes_few hr ht
    refine ⟨Nat.le_trans (add_len l 0) (by omega), Nat.le_trans (add_size l 0 (by omega)) (by omega), add_fits (by omega) hr, add_keys, by rw [next_len]; exact hl, fun ps h => ⟨0 + l.length, ?_⟩⟩
    have := queue_add h l hr (by omega)
    rw [List.nil_append] at this
    exact this
theorem commit_few {used : Nat} {ps : List PairP} {cs : List Ch} (hf : ∀ c ∈ cs, c.fits) (hp : (printL cs).length ≤ 20000) (hu : used ≤ 100) : ∃ u, commitP 2048 (used, ps) cs = ((u, behindP ps cs), 0) := by
  by_cases e : cs = []
  · subst e
    exact ⟨used, commit_nothing 2048 used ps⟩
  · exact ⟨_, commit_room hf e (by unfold secN; omega)⟩

set_option maxRecDepth 100000 in
set_option maxHeartbeats 8000000 in
theorem wapa_walk (v : Value) (l : List ItemS) (key val : ByteArray) (w : World) (hp : PowIs w) (hl : ItemsAt w w.heap.size v l) :
    Calls Tryz.prog 6 #[v, .string key, .string val] w fun e w' => e = .returned (.bool true) ∧ Below w.heap.size w w' := by
  have haw := awake16_any w hp
  obtain ⟨ao, cap, hv, hc1, hc2⟩ := hl.slice
  subst hv
  have hat : Hid (∀ W, Below w.heap.size w W → ∀ i (hi : i < l.length), ∃ g off, ao = some ⟨g, off, none⟩ ∧
    W.cell? ⟨g, off + i * 7 + 3, none⟩ = some (.string (textQ l[i].tx)) ∧ W.cell? ⟨g, off + i * 7 + 6, none⟩ = some (.int .i64 l[i].d)) := Lib.hid fun W hW i hi => hl.cellsW hW (Nat.le_refl _) hi
  have HL := Lib.hid hl
  have Hp := Lib.hid hp
  obtain ⟨n, hn⟩ : ∃ n, l.length = n := ⟨_, rfl⟩
  have Hn := Lib.hid hn
  unfold maxLen at hc2
  rw [hn] at hc1 HL ⊢
  clear hl hp hn
  go_enter Tryz.func6, Tryz.ntmps6
  go_wp2_with fail
  refine haw.mono ?_
  rintro e w1 ⟨rfl, hb1⟩
  have B1 := Lib.hid hb1
  clear haw hb1
  by_cases g1 : 15 < n
  · have Fin := B1
    go_wp2
    go_ret
    exact ⟨rfl, Fin.out⟩
  by_cases g2 : 100 < key.size
  · have Fin := B1
    go_wp2
    go_ret
    exact ⟨rfl, Fin.out⟩
  by_cases g3 : 500 < val.size
  · have Fin := B1
    go_wp2
    go_ret
    exact ⟨rfl, Fin.out⟩
  by_cases g4 : key.size = 0
  · have he : key.toList.isEmpty = true := by
      rw [ByteArray.toList_eq, List.isEmpty_iff, ← List.length_eq_zero_iff]
      exact g4
    have Fin := B1
    go_wp2
    go_ret
    exact ⟨rfl, Fin.out⟩
  have he : key.toList.isEmpty = false := by
    rw [ByteArray.toList_eq, List.isEmpty_eq_false_iff]
    intro e
    apply g4
    show key.data.toList.length = 0
    rw [e]
    rfl
  have g0 : 0 < key.size := by omega
  by_cases g5 : ((key[0]'g0).toNat : Int) = 113
  · have hq : (((key[0]'g0).toNat : Int) == 113) = true := by rw [g5]; rfl
    have Fin := B1
    go_wp2
    go_ret
    exact ⟨rfl, Fin.out⟩
  have hq : (((key[0]'g0).toNat : Int) == 113) = false := by rw [beq_eq_false_iff_ne]; exact g5
  have hhead : key.data.toList.head? ≠ some 113 := by
    have e : key.data.toList.head? = some (key[0]'g0) := by
      obtain ⟨⟨kl⟩⟩ := key
      cases kl with
      | nil => exact absurd rfl g4
      | cons a t => rfl
    rw [e]
    intro h
    apply g5
    rw [Option.some.inj h]
    rfl
  have HK := Lib.hid (And.intro hhead (And.intro (show key.data.toList.length ≤ 100 by show key.size ≤ 100; omega) (show val.data.toList.length ≤ 500 by show val.size ≤ 500; omega)))
  clear hhead
  go_wp2
  clear he hq g4 g5
  go_loopw [7] (fun iv wr => ∃ i : Nat, i ≤ n ∧ iv = .int .i64 i ∧ Hid (wr = w1 ∧ ∀ j (hj : j < l.length), j < i → l[j].tx.length ≤ 500)) (fun iv _ => n - (intOf iv).toNat)
  case atStart => exact ⟨0, by omega, rfl, Lib.hid ⟨rfl, fun j hj h0 => by omega⟩⟩
  case round =>
    obtain ⟨i, hi, rfl, hk⟩ := hrel
    obtain ⟨hwr, _⟩ := hk.out
    subst hwr
    by_cases hlt : i < n
    · have hil : i < l.length := by rw [Hn.out]; exact hlt
      obtain ⟨gb, off, rfl, y3, _⟩ := hat.out wr B1.out i hil
      obtain ⟨X, hX⟩ : ∃ X, textQ l[i].tx = X := ⟨_, rfl⟩
      rw [hX] at y3
      have hXs : X.size = l[i].tx.length := by rw [← hX]; rfl
      clear hX
      by_cases hbig : 500 < X.size
      · have Fin := B1
        clear hXs
        go_wp2
        go_ret
        exact ⟨rfl, Fin.out⟩
      · have K3 := Lib.hid (show ∀ j (hj : j < l.length), j < i + 1 → l[j].tx.length ≤ 500 from fun j hj hji => by
          rcases Nat.lt_or_ge j i with h | h
          · exact hk.out.2 j hj h
          · obtain rfl : j = i := by omega
            omega)
        clear hXs hk
        go_wp2
        go_roundw
        case rel => exact ⟨i + 1, by omega, by go_num, Lib.hid ⟨by first | rfl | trivial, K3.out⟩⟩
        case measure => simp [intOf]; omega
    · obtain rfl : i = n := by omega
      obtain ⟨w2, rfl⟩ : ∃ w2, w2 = wr := ⟨wr, rfl⟩
      have htx : ∀ x ∈ l, x.tx.length ≤ 500 := fun x hx => by
        obtain ⟨j, hj, rfl⟩ := List.getElem_of_mem hx
        exact hk.out.2 j hj (by rw [← Hn.out]; exact hj)
      have HF := Lib.hid (addc_facts (l := l) (by rw [Hn.out]; omega) htx)
      have hm1 := made_any 4096 (by omega) (by omega) (by omega) w2
      clear htx hk
      go_wp2_with fail
      refine hm1.mono ?_
      rintro e w3 ⟨Na, Nda, ga, da, rfl, hsa, _, hb3⟩
      have hsa : StoreG w3 w2.heap.size Na Nda ga 0 2048 1 0 da [] := hsa
      obtain ⟨ma, hMa⟩ := hsa.some
      have A3 := Lib.hid (And.intro hMa hb3)
      have hm2 := made_any 4096 (by omega) (by omega) (by omega) w3
      clear hm1 hsa hMa hb3
      go_wp2_with fail
      refine hm2.mono ?_
      rintro e w4 ⟨Nb, Ndb, gb, db, rfl, hsb, _, hb4⟩
      have hsb : StoreG w4 w3.heap.size Nb Ndb gb 0 2048 1 0 db [] := hsb
      have hba := (Below.refl w4.heap.size w4).alloc (Nat.le_refl _) (.cells #[.string (textQ key.data.toList), .string (textQ val.data.toList), .bool false] 50)
      have q4 : LawQ w3 w4 Nb Ndb gb 2048 1 0 db [] [] 0 := lawq_new hsb hb4 (pow_below Hp.out (B1.out.trans (A3.out.2.mono B1.out.size)))
      have hcm := lawq_one q4 (by omega) key.data.toList val.data.toList false ⟨by have := HK.out.2.1; omega, by have := HK.out.2.2; omega⟩
      have hsz : (printL [⟨key.data.toList, val.data.toList, false⟩]).length ≤ 700 := by
        rw [print_cons]
        have h3 := says_le ⟨key.data.toList, val.data.toList, false⟩
        have h4 : (⟨key.data.toList, val.data.toList, false⟩ : Ch).val.length ≤ 500 := HK.out.2.2
        have h6 : (⟨key.data.toList, val.data.toList, false⟩ : Ch).key.length ≤ 100 := HK.out.2.1
        have h5 : (printL []).length = 0 := rfl
        omega
      rw [commit_room (fun c hc => by
        rw [List.mem_singleton.1 hc]
        exact ⟨by have := HK.out.2.1; show key.data.toList.length ≤ _; omega, by have := HK.out.2.2; show val.data.toList.length ≤ _; omega⟩) (by simp) (by unfold secN; omega)] at hcm
      rw [text_self, text_self, show behindP [] [⟨key.data.toList, val.data.toList, false⟩] = [(key.data.toList, val.data.toList)] from rfl] at hcm
      obtain ⟨ub, hub⟩ : ∃ u, 1 + secN (printL [⟨key.data.toList, val.data.toList, false⟩]).length = u := ⟨_, rfl⟩
      rw [hub] at hcm
      have hub2 : ub ≤ 50 := by rw [← hub]; unfold secN; omega
      have A4 := Lib.hid (And.intro hb4 (show ub ≤ 50 from hub2))
      clear hm2 hsb hba q4 hsz hub hub2 hb4
      go_wp2_with fail
      refine hcm.mono ?_
      rintro e w5 ⟨db5, rfl, hlb, _, htb⟩
      obtain ⟨mb, hMb⟩ := hlb.s.some
      have hMa5 : StoreM w5 w2.heap.size Na Nda ga ma 0 2048 1 0 da [] := A3.out.1.below hlb.lo
      have hz35 := hlb.lo.size
      have hMb5 : StoreM w5 w3.heap.size Nb Ndb gb mb 0 2048 ub 1 db5 [(key.data.toList, val.data.toList)] := hMb
      have hlo5 : Below w2.heap.size w2 w5 := A3.out.2.trans (hlb.lo.mono A3.out.2.size)
      have hB1 := hMa5.bases
      have hL1 := A3.out.1.lt
      have hB2 := hMb5.bases
      have hL2 := hMb5.lt
      have K5 := Lib.hid (And.intro hMa5 (And.intro hMb5 (And.intro hlo5 (And.intro A3.out.2.size hz35))))
      have R5 := Lib.hid (And.intro hB1 (And.intro hL1 (And.intro hB2 hL2)))
      have hpw : PowIs w2 := pow_below Hp.out B1.out
      have HPW := Lib.hid hpw
      have r5 : ItemsAt w5 w.heap.size (.slice ao i cap) l := HL.out.below (B1.out.trans (hlo5.mono B1.out.size)) (Nat.le_refl _)
      have hadd := addc_any (goodM_q hMa5 hlo5 queue_nil hpw) _ _ l r5 (by have := B1.out.size; have := hlo5.size; omega) (by rw [Hn.out]; omega)
      obtain ⟨cs, hcs⟩ : ∃ cs, (addC l).1 = cs := ⟨_, rfl⟩
      obtain ⟨co, hco⟩ : ∃ co, (addC l).2 = co := ⟨_, rfl⟩
      obtain ⟨n5, hn5⟩ : ∃ n5, cs.length = n5 := ⟨_, rfl⟩
      rw [hcs, hco, hn5] at hadd
      have HC := Lib.hid (And.intro hcs (And.intro hco hn5))
      clear hcm hlb htb hMb hMa5 hMb5 hlo5 hz35 hB1 hL1 hB2 hL2 hpw r5 hcs hco hn5
      go_wp2_with fail
      refine hadd.mono ?_
      rintro e w6 ⟨ao6, cap6, rfl, ho6, hb6⟩
      have hz56 := hb6.size
      have hMa6 := K5.out.1.below hb6
      have hMb6 := K5.out.2.1.below hb6
      have hlo6 : Below w2.heap.size w2 w6 := K5.out.2.2.1.trans (hb6.mono K5.out.2.2.1.size)
      have hlo36 : Below w2.heap.size w2 w6 := hlo6
      have hqb : QueueP [(key.data.toList, val.data.toList)] [] 0 := queue_other HK.out.1
      have hMb6d := hMb6.down K5.out.2.2.2.1
      have r6 : ItemsAt w6 w.heap.size (.slice ao i cap) l := HL.out.below (B1.out.trans (hlo6.mono B1.out.size)) (Nat.le_refl _)
      have hadd2 := addc_any (goodM_q hMb6d hlo6 hqb HPW.out) _ _ l r6 (by have := B1.out.size; have := hlo6.size; omega) (by rw [Hn.out]; omega)
      rw [HC.out.1, HC.out.2.1, HC.out.2.2] at hadd2
      have K6 := Lib.hid (And.intro hMa6 (And.intro hMb6 (And.intro hlo6 (And.intro ho6 hz56))))
      clear hadd hMa6 hMb6 hMb6d hlo6 hlo36 hqb r6 ho6 hb6 hz56
      go_wp2_with fail
      refine hadd2.mono ?_
      rintro e w7 ⟨ao7, cap7, rfl, ho7, hb7⟩
      have hMa7 := K6.out.1.below hb7
      have hMb7 := K6.out.2.1.below hb7
      have hlo7 : Below w2.heap.size w2 w7 := K6.out.2.2.1.trans (hb7.mono K6.out.2.2.1.size)
      have o6 : OwnC9 w5.heap.size w7 (.slice ao6 n5 cap6) cs := (Turned.of_below (S := fun _ => False) hb7 (Nat.le_refl _)).row (by rw [← HC.out.2.2] at *; exact K6.out.2.2.2.1) (fun _ _ h => h)
      have o7 : OwnC9 w6.heap.size w7 (.slice ao7 n5 cap7) cs := ho7
      have hz67 := hb7.size
      obtain ⟨f1, f2, f3, f4, f5, f6⟩ := HF.out
      rw [HC.out.1] at f1 f2 f3 f4 f6
      have hR := R5.out
      have hca := goodM_put hMa7 (by have := hlo7.size; omega) (by omega) w5.heap.size _ cs o6 (by have := hR.2.1.2.1; have := K5.out.2.2.2.2; omega) (fun b hb => by have := hR.2.1.2.2 b hb; have := K5.out.2.2.2.2; omega) (by omega) (by omega) hlo7 (Nat.le_refl _)
      obtain ⟨ua, hua⟩ := commit_few (used := 1) (ps := []) f3 f2 (by omega)
      rw [hua] at hca
      obtain ⟨la, hqa⟩ := f6 [] queue_nil
      obtain ⟨lb, hqb⟩ := f6 _ (queue_other (v := val.data.toList) HK.out.1)
      obtain ⟨ub2, hub2⟩ := commit_few (used := ub) (ps := [(key.data.toList, val.data.toList)]) f3 f2 (by have := A4.out.2; omega)
      have K7 := Lib.hid (And.intro hMb7 (And.intro o7 (And.intro hz67 (And.intro hqa (And.intro hqb hub2)))))
      have HF2 := Lib.hid (And.intro f1 (And.intro f2 (And.intro f4 f5)))
      clear hadd2 hMa7 hMb7 hlo7 o6 o7 hz67 ho7 hb7 f1 f2 f3 f4 f5 f6 hR hua hqa hqb hub2
      go_wp2_with fail
      refine hca.mono ?_
      rintro e w8 ⟨da8, ma8, rfl, hMa8, ta, hba, hlo8, hma8⟩
      have hR := R5.out
      have hz57 : w5.heap.size ≤ w7.heap.size := Nat.le_trans K6.out.2.2.2.2 K7.out.2.2.1
      have hSa : ∀ b, mineS Na Nda ga ma b → b < w3.heap.size := fun b hb => by
        rcases hb with rfl | hb | rfl
        · exact hR.2.1.2.1
        · exact hR.2.1.2.2 b hb
        · exact hR.2.1.1
      have hMb8 := K7.out.1.keep ta (fun b hb hs => by have := hSa b hs; omega)
      have o8 : OwnC9 w6.heap.size w8 (.slice ao7 n5 cap7) cs := ta.row K7.out.2.1 (fun b hb hs => by
        have h1 := (World.ownsRow.lt K7.out.2.1 b hb).1
        have h2 := hSa b hs
        have h3 := K5.out.2.2.2.2
        have h4 := K6.out.2.2.2.2
        omega)
      have hz78 := ta.size
      have hcb := goodM_put (hMb8.down K5.out.2.2.2.1) (by have := hlo8.size; omega) (by omega) w6.heap.size _ cs o8 (by have := hR.2.2.2.2.1; have := K6.out.2.2.2.2; omega) (fun b hb => by have := hR.2.2.2.2.2 b hb; have := K6.out.2.2.2.2; omega) (by have := HF2.out.1; omega) (by have := HF2.out.2.1; omega) hlo8 (Nat.le_refl _)
      rw [K7.out.2.2.2.2.2] at hcb
      have K8 := Lib.hid (And.intro hMa8 (And.intro hz57 (And.intro hz78 hma8)))
      clear hca hba hMa8 ta hma8 hR hSa hMb8 o8 hz57 hz78 hlo8
      go_wp2_with fail
      refine hcb.mono ?_
      rintro e w9 ⟨db9, mb9, rfl, hMb9, tb, _, hlo9, _⟩
      have hR := R5.out
      have hMa9 := K8.out.1.keeps tb (fun hs => by
        rcases hs with hs | hs | hs
        · have := hR.2.1.2.1; have := hR.2.2.1.1; omega
        · have := hR.2.1.2.1; have := hR.2.2.1.2.2 _ hs; omega
        · have := hR.2.1.2.1; have := hR.2.2.1.2.1; omega) (fun b hb hs => by
        have h1 := hR.2.1.2.2 b hb
        rcases hs with hs | hs | hs
        · have := hR.2.2.1.1; omega
        · have := hR.2.2.1.2.2 _ hs; omega
        · have := hR.2.2.1.2.1; omega) (fun hs => by
        have h0 := K8.out.2.1
        rcases K8.out.2.2.2 with h1 | h1
        · have h2 := hR.2.1.1
          rw [h1] at hs
          rcases hs with hs | hs | hs
          · have := hR.2.2.1.1; omega
          · have := hR.2.2.1.2.2 _ hs; omega
          · have := hR.2.2.1.2.1; omega
        · rcases hs with hs | hs | hs
          · have := hR.2.2.2.2.1; omega
          · have := hR.2.2.2.2.2 _ hs; omega
          · have := hR.2.2.2.1; omega)
      have qa := goodM_q hMa9 hlo9 K7.out.2.2.2.1 HPW.out
      have qb := goodM_q hMb9 hlo9 K7.out.2.2.2.2.1 HPW.out
      obtain ⟨L, hL⟩ : ∃ L, addL l = L := ⟨_, rfl⟩
      obtain ⟨k, hk⟩ : ∃ k, L.length = k := ⟨_, rfl⟩
      rw [hL] at qa qb
      have hk15 : k ≤ 15 := by have := HF2.out.2.2.2; rw [hL, hk] at this; exact this
      have hla : Calls Tryz.prog 19 #[.pointer (some ⟨Na, 0, none⟩)] w9 fun e w' => ∃ ao cap, e = .returned (.slice ao k cap) ∧ Hid (ItemsOwn w' w9.heap.size (.slice ao k cap) L) ∧ Below w9.heap.size w9 w' := (lawq_list qa (by omega) (by omega)).mono fun e w' ⟨v, h1, h2, h3⟩ => by
        have h4 := h2
        unfold ItemsOwn at h4
        rw [hk] at h4
        obtain ⟨ao, cap, rfl⟩ := row_slice h4
        exact ⟨ao, cap, h1, Lib.hid h2, h3⟩
      have K9 := Lib.hid (And.intro qb hk)
      clear hcb hMb9 tb hMa9 qa qb hR hL hk hlo9
      go_wp2_with fail
      refine hla.mono ?_
      rintro e w10 ⟨ao10, cap10, rfl, ho10, hb10⟩
      have q10 := K9.out.1.below hb10
      have hlb : Calls Tryz.prog 19 #[.pointer (some ⟨Nb, 0, none⟩)] w10 fun e w' => ∃ ao cap, e = .returned (.slice ao k cap) ∧ Hid (ItemsOwn w' w10.heap.size (.slice ao k cap) L) ∧ Below w10.heap.size w10 w' := (lawq_list q10 (by omega) (by have := K9.out.2; omega)).mono fun e w' ⟨v, h1, h2, h3⟩ => by
        have h4 := h2
        unfold ItemsOwn at h4
        rw [K9.out.2] at h4
        obtain ⟨ao, cap, rfl⟩ := row_slice h4
        exact ⟨ao, cap, h1, Lib.hid h2, h3⟩
      have K10 := Lib.hid (And.intro q10 ho10.out)
      clear hla ho10 hb10 q10
      go_wp2_with fail
      refine hlb.mono ?_
      rintro e w11 ⟨ao11, cap11, rfl, ho11, hb11⟩
      have K11 := Lib.hid (And.intro (K10.out.1.below hb11) (And.intro (show ItemsOwn w11 w9.heap.size (.slice ao10 k cap10) L from (Turned.of_below (S := fun _ => False) hb11 (Nat.le_refl _)).row K10.out.2 (fun _ _ h => h)) ho11.out))
      clear hlb ho11 hb11
      obtain ⟨pb, hpb⟩ : ∃ p, behindP [(key.data.toList, val.data.toList)] cs = p := ⟨_, rfl⟩
      have hfv : findP pb key.data.toList = some val.data.toList := by
        rw [← hpb, find_behind_other cs _ (fun c hc e => HK.out.1 (by rw [← e]; exact HF2.out.2.2.1 c hc)), find_cons, if_pos rfl]
      have Hfv := Lib.hid hfv
      have L11 : Hid (LawQ w2 w11 Nb Ndb gb 2048 ub2 2 db9 pb L lb ∧ ItemsOwn w11 w9.heap.size (.slice ao10 k cap10) L ∧ ItemsOwn w11 w10.heap.size (.slice ao11 k cap11) L) := Lib.hid (by rw [← hpb]; exact K11.out)
      have KN := Lib.hid K9.out.2
      clear hpb hfv K11 K10 K9 K8 K7 K6 K5 R5 A4 A3 HF HF2 HC HPW
      go_wp2
      go_loopw [18] (fun iv wr => ∃ i2 : Nat, i2 ≤ k ∧ iv = .int .i64 i2 ∧ Hid (LawQ w2 wr Nb Ndb gb 2048 ub2 2 db9 pb L lb ∧ ItemsOwn wr w9.heap.size (.slice ao10 k cap10) L ∧ ItemsOwn wr w10.heap.size (.slice ao11 k cap11) L)) (fun iv _ => k - (intOf iv).toNat)
      case atStart => exact ⟨0, by omega, rfl, L11⟩
      case round =>
        clear L11
        obtain ⟨j, hj, rfl, hk⟩ := hrel
        by_cases hlt : j < k
        · have hjl : j < L.length := by rw [KN.out]; exact hlt
          have hx := hk.out.2.1
          have hy := hk.out.2.2
          unfold ItemsOwn at hx hy
          have hax : ItemsAt wr wr.heap.size (.slice ao10 k cap10) L := ItemsOwn.at hk.out.2.1
          have hay : ItemsAt wr wr.heap.size (.slice ao11 k cap11) L := ItemsOwn.at hk.out.2.2
          obtain ⟨_, _, e10, l10, m10, hcx⟩ := hax
          injection e10 with e1 e2a e3
          subst e1 e3
          obtain ⟨_, _, e11, l11, m11, hcy⟩ := hay
          injection e11 with e1 e2b e3
          subst e1 e3
          obtain ⟨gx, ox, rfl, _, cx⟩ := hcx j hjl
          obtain ⟨gy, oy, rfl, _, cy⟩ := hcy j hjl
          rw [KN.out] at l10 l11
          unfold maxLen at m10 m11
          obtain ⟨z, hz⟩ : ∃ z, L[j] = z := ⟨_, rfl⟩
          rw [hz] at cx cy
          have x0 : wr.cell? ⟨gx, ox + j * 7, none⟩ = some (.int .i64 z.id) := cx 0 (by omega)
          have x1 : wr.cell? ⟨gx, ox + j * 7 + 1, none⟩ = some (.string (textQ z.fr)) := cx 1 (by omega)
          have x2 : wr.cell? ⟨gx, ox + j * 7 + 2, none⟩ = some (.string (textQ z.to)) := cx 2 (by omega)
          have x3 : wr.cell? ⟨gx, ox + j * 7 + 3, none⟩ = some (.string (textQ z.tx)) := cx 3 (by omega)
          have x4 : wr.cell? ⟨gx, ox + j * 7 + 4, none⟩ = some (.int .i64 z.b) := cx 4 (by omega)
          have x5 : wr.cell? ⟨gx, ox + j * 7 + 5, none⟩ = some (.int .i64 z.t) := cx 5 (by omega)
          have x6 : wr.cell? ⟨gx, ox + j * 7 + 6, none⟩ = some (.int .i64 z.d) := cx 6 (by omega)
          have y0 : wr.cell? ⟨gy, oy + j * 7, none⟩ = some (.int .i64 z.id) := cy 0 (by omega)
          have y1 : wr.cell? ⟨gy, oy + j * 7 + 1, none⟩ = some (.string (textQ z.fr)) := cy 1 (by omega)
          have y2 : wr.cell? ⟨gy, oy + j * 7 + 2, none⟩ = some (.string (textQ z.to)) := cy 2 (by omega)
          have y3 : wr.cell? ⟨gy, oy + j * 7 + 3, none⟩ = some (.string (textQ z.tx)) := cy 3 (by omega)
          have y4 : wr.cell? ⟨gy, oy + j * 7 + 4, none⟩ = some (.int .i64 z.b) := cy 4 (by omega)
          have y5 : wr.cell? ⟨gy, oy + j * 7 + 5, none⟩ = some (.int .i64 z.t) := cy 5 (by omega)
          have y6 : wr.cell? ⟨gy, oy + j * 7 + 6, none⟩ = some (.int .i64 z.d) := cy 6 (by omega)
          have hcm := fun W => run_item_neq z z W
          have hgd := fun p q W => run_item_guard .neq p q z z W
          rw [decide_eq_true rfl] at hcm
          unfold itemV itemW at hcm hgd
          obtain ⟨F, hF⟩ : ∃ X, textQ z.fr = X := ⟨_, rfl⟩
          obtain ⟨O, hO⟩ : ∃ X, textQ z.to = X := ⟨_, rfl⟩
          obtain ⟨X, hX⟩ : ∃ X, textQ z.tx = X := ⟨_, rfl⟩
          rw [hF, hO, hX] at hcm hgd
          rw [hF] at x1 y1
          rw [hO] at x2 y2
          rw [hX] at x3 y3
          have K0 := Lib.hid (show ∀ q, LawQ w2 (wr.drewN q) Nb Ndb gb 2048 ub2 2 db9 pb L lb ∧ ItemsOwn (wr.drewN q) w9.heap.size (.slice (some ⟨gx, ox, none⟩) k cap10) L ∧ ItemsOwn (wr.drewN q) w10.heap.size (.slice (some ⟨gy, oy, none⟩) k cap11) L from fun q => by
            have hb := below_drewN (Below.refl wr.heap.size wr) q
            exact ⟨hk.out.1.below hb, (Turned.of_below (S := fun _ => False) hb (Nat.le_refl _)).row hk.out.2.1 (fun _ _ h => h), (Turned.of_below (S := fun _ => False) hb (Nat.le_refl _)).row hk.out.2.2 (fun _ _ h => h)⟩)
          clear hx hy hcx hcy cx cy hz hF hO hX hjl hk e2a e2b
          go_wp2_with fail
          go_quiet (fail)
          have K1 := Lib.hid (K0.out nq)
          clear x0 x1 x2 x3 x4 x5 x6 y0 y1 y2 y3 y4 y5 y6 hcm hgd K0
          go_wp2
          go_roundw
          case rel => exact ⟨j + 1, by omega, by go_num, K1⟩
          case measure => simp [intOf]; omega
        · obtain rfl : j = k := by omega
          have hgt := law_get hk.out.1.s key.data.toList (by have := HK.out.2.1; omega)
          rw [Hfv.out, Option.getD_some, text_self, text_self] at hgt
          have K2 := Lib.hid hk.out.1.s.lo
          clear hk
          go_wp2_with fail
          refine hgt.mono ?_
          rintro e w12 ⟨rfl, hb12⟩
          have Fin := Lib.hid ((B1.out.trans (K2.out.mono B1.out.size)).trans (hb12.mono (B1.out.trans (K2.out.mono B1.out.size)).size))
          clear hgt hb12
          go_wp2
          go_ret
          exact ⟨rfl, Fin.out⟩
end Go.Proofs.YtgpdplffljidbaaGreatDoor
