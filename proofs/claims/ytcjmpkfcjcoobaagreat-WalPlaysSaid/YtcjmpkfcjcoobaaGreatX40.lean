/-
  Texts of this proof, put together: StI, StJ.
-/
import Derived.Test.YtcjmpkfcjcoobaaGreatX39
import Derived.Test.YtcjmpkfcjcoobaaGreatX33
import Derived.Test.YtcjmpkfcjcoobaaGreatX05
namespace Go.Proofs.YtcjmpkfcjcoobaaGreat
open Go.RowKit Go.Maps

theorem bytes_append (a b : List UInt8) : Lib.byteCells (a ++ b) = Lib.byteCells a ++ Lib.byteCells b := by simp [Lib.byteCells]
/-- The first sectors of a half, and one more. -/
theorem flat_take (h : List (List UInt8)) (k : Nat) (hk : k < h.length) : (h.take (k + 1)).flatten = (h.take k).flatten ++ h.getD k [] := by
  rw [List.take_add_one, List.getElem?_eq_getElem hk, List.flatten_append, List.getD_eq_getElem?_getD, List.getElem?_eq_getElem hk]
  simp
theorem flat_size {h : List (List UInt8)} (hs : ∀ s ∈ h, s.length = 64) : h.flatten.length = 64 * h.length := by
  induction h with
  | nil => rfl
  | cons a l ih =>
    rw [List.flatten_cons, List.length_append, ih (fun s hs' => hs s (List.mem_cons_of_mem _ hs')), hs a (List.mem_cons_self ..), List.length_cons]
    omega
theorem half_mem {ss : List (List UInt8)} {k sz : Nat} {s : List UInt8} (h : s ∈ halfD ss k sz) : s ∈ ss := List.mem_of_mem_drop (List.mem_of_mem_take h)

set_option maxRecDepth 100000 in
set_option maxHeartbeats 4000000 in
theorem wread_any (B N Nd g m : Nat) (cs : Array Value) (st : StP) (d : Dk) (w : World) (h : Held9 w N cs 102) (hc : CellsOk cs Nd m st) (hd : DiskAt w B Nd g d)
    (half : Nat) (hf : st.fr ≤ 100000) (hz : st.sz ≤ 10000) (hz1 : 1 ≤ st.sz) (hh : half ≤ 1) (hfit : st.fr + half * st.sz + st.sz ≤ d.ss.length) :
    Calls Tryz.prog 57 #[.pointer (some ⟨N, 0, none⟩), .int .i64 (half : Int)] w fun e w' =>
      e = .returned (if d.down = true then .tuple #[.string ⟨#[]⟩, .int .i64 6] else .tuple #[.string (textQ (halfD d.ss (st.fr + half * st.sz) st.sz).flatten), .int .i64 0]) ∧ Below w.heap.size w w' := by
  obtain ⟨fr, sz, pl, lost⟩ := st
  simp only at hf hz hz1 hfit ⊢
  have hmul : half * sz ≤ 10000 := by
    rcases Nat.le_one_iff_eq_zero_or_eq_one.1 hh with rfl | rfl <;> omega
  obtain ⟨q, hq⟩ : ∃ q, half * sz = q := ⟨_, rfl⟩
  have hqi : (half : Int) * (sz : Int) = (q : Int) := by rw [← hq]; push_cast; rfl
  rw [hq] at hmul hfit ⊢
  have hNl := h.lt
  have hlen := half_len (ss := d.ss) hfit
  have h64 : ∀ s ∈ halfD d.ss (fr + q) sz, s.length = 64 := fun s hs => hd.ok.ss s (half_mem hs)
  have hget : ∀ k, k < sz → d.ss.getD (fr + q + k) [] = (halfD d.ss (fr + q) sz).getD k [] := fun k hk => by
    rw [List.getD_eq_getElem?_getD, List.getD_eq_getElem?_getD, half_get, if_pos hk]
  have hK : ∀ W, Below w.heap.size w W → W.cell? ⟨N, 0, none⟩ = some (.pointer (some ⟨Nd, 0, none⟩)) ∧ W.cell? ⟨N, 1, none⟩ = some (.int .i64 (fr : Int)) ∧ W.cell? ⟨N, 2, none⟩ = some (.int .i64 (sz : Int)) := fun W hW => by
    have h' := h.below hW hNl
    refine ⟨?_, ?_, ?_⟩
    · rw [h'.cell 0]; exact hc.c0
    · rw [h'.cell 1]; exact hc.c1
    · rw [h'.cell 2]; exact hc.c2
  have hR : ∀ W, Below w.heap.size w W → ∀ k, k < sz → Calls Tryz.prog 83 #[.pointer (some ⟨Nd, 0, none⟩), .int .i64 ((fr : Int) + (q : Int) + (k : Int))] W fun e w' => e = .returned (.tuple #[.string (if d.down = true then ⟨#[]⟩ else textQ ((halfD d.ss (fr + q) sz).getD k [])), .int .i64 (if d.down = true then 6 else 0)]) ∧ w' = W := fun W hW k hk => by
    have hr := sread_any B Nd g d W (hd.below hW) ((fr : Int) + (q : Int) + (k : Int))
    have e : checkD d ((fr : Int) + (q : Int) + (k : Int)) = if d.down = true then 6 else 0 := by
      unfold checkD
      by_cases hdn : d.down = true
      · rw [if_pos hdn, if_pos hdn]
      · rw [if_neg hdn, if_neg hdn, if_neg (by omega)]
    rw [e] at hr
    refine hr.mono fun e' w' ⟨he, hw⟩ => ⟨?_, hw⟩
    rw [he]
    by_cases hdn : d.down = true
    · simp only [hdn, if_true]
      rfl
    · simp only [hdn]
      rw [show ((fr : Int) + (q : Int) + (k : Int)).toNat = fr + q + k by omega, hget k hk]
      rfl
  have hflat : ∀ k, k < sz → ((halfD d.ss (fr + q) sz).take (k + 1)).flatten = ((halfD d.ss (fr + q) sz).take k).flatten ++ (halfD d.ss (fr + q) sz).getD k [] := fun k hk => flat_take _ k (by rw [hlen]; exact hk)
  have hall : (halfD d.ss (fr + q) sz).take sz = halfD d.ss (fr + q) sz := List.take_of_length_le (by rw [hlen]; exact Nat.le_refl _)
  have hlt : ∀ k, k ≤ sz → ((halfD d.ss (fr + q) sz).take k).flatten.length ≤ 640000 := fun k hk => by
    rw [flat_size fun s hs => h64 s (List.mem_of_mem_take hs), List.length_take]
    omega
  have hl1 : ∀ k, k < sz → ((halfD d.ss (fr + q) sz).getD k []).length = 64 := fun k hk => by
    rw [List.getD_eq_getElem?_getD, List.getElem?_eq_getElem (by rw [hlen]; exact hk)]
    exact h64 _ (List.getElem_mem _)
  obtain ⟨dn, hdn⟩ : ∃ dn, d.down = dn := ⟨_, rfl⟩
  rw [hdn] at hR ⊢
  generalize halfD d.ss (fr + q) sz = hs at *
  have HK := Lib.hid hK
  have HR := Lib.hid hR
  have HF := Lib.hid (And.intro hflat (And.intro hall (And.intro hlt hl1)))
  have hgrow := fun W (h1 : W = w.alloc (.cells #[.pointer none, .slice none 0 0] 157)) => Tryz.Builder_Grow_fresh w.heap.size w.heap.size (sz * 64) W (Nat.le_refl _) (h1 ▸ heap_alloc_new w _) (h1 ▸ by simp) (by omega)
  have hgr := hgrow _ rfl
  rw [show ((sz * 64 : Nat) : Int) = (sz : Int) * 64 by push_cast; rfl] at hgr
  obtain ⟨c0, c1, c2⟩ := hK _ ((Below.refl _ w).alloc (Nat.le_refl _) (.cells #[.pointer none, .slice none 0 0] 157))
  have hb0 := (Below.refl w.heap.size w).alloc (Nat.le_refl _) (.cells #[.pointer none, .slice none 0 0] 157)
  clear hK hR hflat hall hlt hl1 hgrow h hc hd hget h64 hlen hfit hdn
  go_enter Tryz.func57, Tryz.ntmps57
  go_wp2_with fail
  refine hgr.mono ?_
  rintro e w1 ⟨rfl, hbd, hbw⟩
  have hb1 := hb0.trans hbw
  obtain ⟨c0, c1, c2⟩ := HK.out _ hb1
  clear hgr hb0 hbw
  go_wp2_with fail
  go_loopw [20] (fun iv wr => ∃ k : Nat, k ≤ sz ∧ iv = .int .i64 k ∧ (dn = true → k = 0) ∧ Lib.BuilderAt 157 5 w.heap.size w.heap.size (.pointer (some ⟨w.heap.size, 0, none⟩)) (Lib.byteCells (hs.take k).flatten) wr ∧ Below w.heap.size w wr) (fun iv _ => sz - (intOf iv).toNat)
  case atStart => exact ⟨0, by omega, rfl, fun _ => rfl, by simpa [Lib.byteCells] using hbd, hb1⟩
  case round =>
    clear hbd hb1 c0 c1 c2
    obtain ⟨k, hk, rfl, hk0, hbd, hb⟩ := hrel
    obtain ⟨c0, c1, c2⟩ := HK.out _ hb
    have hbz := hb.size
    by_cases hlt : k < sz
    · have hr := fun q9 => HR.out (wr.drewN q9) (below_drewN hb q9) k hlt
      obtain ⟨hflat, _, hlen, hl1⟩ := HF.out
      have hl := hlen k hk
      have h1 := hl1 k hlt
      have HX := Lib.hid (hflat k hlt)
      have Hbd := Lib.hid hbd
      have Hb := Lib.hid hb
      clear hflat hlen hl1 hbd hb
      cases dn with
      | true =>
        obtain rfl : k = 0 := hk0 rfl
        simp only [if_true, Int.natCast_zero, Int.add_zero] at hr
        have Hr := Lib.hid hr
        clear hr
        go_wp2_with fail
        have k0 : IntKind.i64.wrap (q : Int) = (q : Int) := IntWalk.i64_in _ (by omega)
        have k1 : IntKind.i64.wrap ((fr : Int) + (q : Int)) = (fr : Int) + (q : Int) := IntWalk.i64_in _ (by omega)
        go_quiet (first | (go_at_call 83; exact Calls.quiet_of_same (Hr.out _)))
        clear k0 k1
        go_wp2_with fail
        go_ret2
        exact ⟨rfl, below_drewN Hb.out nq⟩
      | false =>
        simp only [Bool.false_eq_true, if_false] at hr
        have Hr := Lib.hid hr
        clear hr
        obtain ⟨X, hX⟩ : ∃ X, textQ (hs.getD k []) = X := ⟨_, rfl⟩
        have hXs : X.size = 64 := by rw [← hX]; exact h1
        rw [hX] at Hr
        go_wp2_with fail
        have k0 : IntKind.i64.wrap (q : Int) = (q : Int) := IntWalk.i64_in _ (by omega)
        have k1 : IntKind.i64.wrap ((fr : Int) + (q : Int)) = (fr : Int) + (q : Int) := IntWalk.i64_in _ (by omega)
        have k2 : IntKind.i64.wrap ((fr : Int) + (q : Int) + (k : Int)) = (fr : Int) + (q : Int) + (k : Int) := IntWalk.i64_in _ (by omega)
        go_quiet (first | (go_at_call 83; exact Calls.quiet_of_same (Hr.out _)))
        clear k0 k1 k2
        have hb9 := below_drewN Hb.out nq
        have hbs := bwrite_any w.heap.size w.heap.size (Lib.byteCells (hs.take k).flatten) X (wr.drewN nq) (.inr (show Lib.BuilderAt 157 5 _ _ _ _ (wr.drewN nq) from Hbd.out)) (by rw [Lib.byteCells_length]; omega) hbz
        have Hb9 := Lib.hid hb9
        clear hb9
        go_wp2_with fail
        refine hbs.mono ?_
        rintro e w3 ⟨rfl, hb3, hw3⟩
        have hnx : Lib.byteCells (hs.take k).flatten ++ Lib.strCells X = Lib.byteCells (hs.take (k + 1)).flatten := by
          rw [HX.out, bytes_append, ← hX]
          rfl
        rw [hnx] at hb3
        have Hfin := Lib.hid (And.intro hb3 (Hb9.out.trans hw3))
        clear hb3 hw3 hnx hbs
        go_wp2_with fail
        go_roundw
        case rel => exact ⟨k + 1, by omega, by go_num, (fun e => by cases e), Hfin.out.1, Hfin.out.2⟩
        case measure => simp [intOf]; omega
    · obtain rfl : k = sz := by omega
      obtain rfl : dn = false := by
        cases dn with
        | false => rfl
        | true =>
          have := hk0 rfl
          omega
      rw [HF.out.2.1] at hbd
      have hst := Tryz.Builder_String_any w.heap.size w.heap.size hs.flatten wr (.inr hbd) hbz
      have Hb := Lib.hid hb
      clear hbd hb
      go_wp2_with fail
      refine hst.mono ?_
      rintro e w3 ⟨rfl, hw3⟩
      have Hfin := Lib.hid (Hb.out.trans hw3)
      clear hw3 hst
      go_wp2_with fail
      go_ret2
      exact ⟨rfl, Hfin.out⟩
end Go.Proofs.YtcjmpkfcjcoobaaGreat
namespace Go.Proofs.YtcjmpkfcjcoobaaGreat

/-- A record read at the head of bytes, sector upon sector. -/
def readF (H : List UInt8 → List UInt8) (x : List UInt8) : Option (Nat × Nat × List UInt8) :=
  if x.take 2 ≠ [77, 71] then none
  else if (x.drop 63).take 1 ≠ [77] then none
  else if x.length < valF 0 ((x.drop 10).take 4) then none
  else if x.length < 64 * secN (valF 0 ((x.drop 10).take 4)) then none
  else if H ((x.take 63 ++ (x.drop 64).take (64 * secN (valF 0 ((x.drop 10).take 4)) - 64)).take (14 + valF 0 ((x.drop 10).take 4))) ≠ ((x.take 63 ++ (x.drop 64).take (64 * secN (valF 0 ((x.drop 10).take 4)) - 64)).drop (14 + valF 0 ((x.drop 10).take 4))).take 32 then none
  else some (valF 0 ((x.drop 2).take 4), valF 0 ((x.drop 6).take 4), ((x.take 63 ++ (x.drop 64).take (64 * secN (valF 0 ((x.drop 10).take 4)) - 64)).drop 14).take (valF 0 ((x.drop 10).take 4)))
theorem val4_valF (l : List UInt8) (h : l.length = 4) : val4 l = valF 0 l := by
  match l, h with
  | [a, b, c, d], _ => simp [val4, valF]
theorem flat_drop : ∀ (k : Nat) (ss : List (List UInt8)), (∀ s ∈ ss, s.length = 64) → ss.flatten.drop (64 * k) = (ss.drop k).flatten
  | 0, _, _ => rfl
  | k + 1, [], _ => by simp
  | k + 1, s :: ss, h => by
    have hs := h s (List.mem_cons_self ..)
    rw [List.flatten_cons, List.drop_append, List.drop_of_length_le (by omega), List.nil_append, hs, show 64 * (k + 1) - 64 = 64 * k by omega, flat_drop k ss (fun x hx => h x (List.mem_cons_of_mem _ hx))]
    rfl
theorem flat_take64 : ∀ (k : Nat) (ss : List (List UInt8)), (∀ s ∈ ss, s.length = 64) → ss.flatten.take (64 * k) = (ss.take k).flatten
  | 0, _, _ => by simp
  | k + 1, [], _ => by simp
  | k + 1, s :: ss, h => by
    have hs := h s (List.mem_cons_self ..)
    rw [List.flatten_cons, List.take_append, List.take_of_length_le (by omega), hs, show 64 * (k + 1) - 64 = 64 * k by omega, flat_take64 k ss (fun x hx => h x (List.mem_cons_of_mem _ hx))]
    rfl
theorem readF_flat (H : List UInt8 → List UInt8) (ss : List (List UInt8)) (h : ∀ s ∈ ss, s.length = 64) : readF H ss.flatten = readR H ss := by
  match ss, h with
  | [], _ => rfl
  | s :: ss, h =>
    have hs := h s (List.mem_cons_self ..)
    have hss : ∀ x ∈ ss, x.length = 64 := fun x hx => h x (List.mem_cons_of_mem _ hx)
    have hl := flat_size hss
    have t2 : (s ++ ss.flatten).take 2 = s.take 2 := by rw [List.take_append_of_le_length (by omega)]
    have t63 : (s ++ ss.flatten).take 63 = s.take 63 := by rw [List.take_append_of_le_length (by omega)]
    have fld : ∀ a, a + 4 ≤ 64 → ((s ++ ss.flatten).drop a).take 4 = (s.drop a).take 4 := fun a ha => by
      rw [List.drop_append_of_le_length (by omega), List.take_append_of_le_length (by rw [List.length_drop]; omega)]
    have m63 : ((s ++ ss.flatten).drop 63).take 1 = [s.getD 63 0] := by
      rw [List.drop_append_of_le_length (by omega), List.take_append_of_le_length (by rw [List.length_drop]; omega), List.getD_eq_getElem?_getD, List.getElem?_eq_getElem (by omega)]
      rw [List.drop_eq_getElem_cons (by omega)]
      rfl
    have d64 : (s ++ ss.flatten).drop 64 = ss.flatten := by rw [← hs, List.drop_left]
    have v10 : val4 ((s.drop 10).take 4) = valF 0 ((s.drop 10).take 4) := val4_valF _ (by rw [List.length_take, List.length_drop]; omega)
    have v2 : val4 ((s.drop 2).take 4) = valF 0 ((s.drop 2).take 4) := val4_valF _ (by rw [List.length_take, List.length_drop]; omega)
    have v6 : val4 ((s.drop 6).take 4) = valF 0 ((s.drop 6).take 4) := val4_valF _ (by rw [List.length_take, List.length_drop]; omega)
    unfold readF readR bytesR
    simp only [List.flatten_cons, t2, t63, m63, d64, fld 10 (by omega), fld 2 (by omega), fld 6 (by omega), v10, v2, v6]
    generalize valF 0 ((s.drop 10).take 4) = n
    have hlen : (s ++ ss.flatten).length = 64 * (ss.length + 1) := by rw [List.length_append, hs, hl]; omega
    have hsp := secN_pos n
    rw [hlen]
    rw [show 64 * secN n - 64 = 64 * (secN n - 1) by omega, flat_take64 _ _ hss]
    have hnn : n ≤ 64 * secN n := by unfold secN; omega
    by_cases c1 : s.take 2 = [77, 71]
    · rw [if_neg (fun e => e c1)]
      by_cases c2 : s.getD 63 0 = 77
      · rw [if_neg (fun e => e (by rw [c2]))]
        by_cases c3 : secN n ≤ ss.length + 1
        · rw [if_neg (by omega), if_neg (by omega)]
          by_cases c4 : H ((s.take 63 ++ (ss.take (secN n - 1)).flatten).take (14 + n)) = ((s.take 63 ++ (ss.take (secN n - 1)).flatten).drop (14 + n)).take 32
          · rw [if_neg (fun e => e c4), if_pos ⟨c2, c1, c3, c4.symm⟩]
          · rw [if_pos c4, if_neg (fun e => c4 e.2.2.2.symm)]
        · by_cases c5 : 64 * (ss.length + 1) < n
          · rw [if_pos c5]
            exact (if_neg (fun e => c3 e.2.2.1)).symm
          · rw [if_neg c5, if_pos (by omega)]
            exact (if_neg (fun e => c3 e.2.2.1)).symm
      · rw [if_pos (fun e => c2 (by simpa using e)), if_neg (fun e => c2 e.1)]
    · rw [if_pos c1, if_neg (fun e => c1 e.2.1)]
end Go.Proofs.YtcjmpkfcjcoobaaGreat
