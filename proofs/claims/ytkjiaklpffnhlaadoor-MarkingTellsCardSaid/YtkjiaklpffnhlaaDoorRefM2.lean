/-
  The document's answer of layer 2, written in Go: a text's label and rest, what passes: told by the plain functions that tell the program. Condition: the text is shorter than 4294967281 bytes.
-/
import Derived.Test.YtkjiaklpffnhlaaDoorMark
import Derived.Test.YtkjiaklpffnhlaaDoorRef6
import Derived.Deep.CutBlock
import Derived.Handy
namespace Go.Proofs.YtkjiaklpffnhlaaDoor
open Go.RowKit

/-- Do the bytes of an end stand there? -/
def pairB (s : List UInt8) (k : Nat) : Bool := List.isPrefixOf [13, 10] (s.drop k)
theorem index_first : ∀ (k : Nat) (s : List UInt8), (∀ j, j < k → pairB s j = false) → pairB s k = true → Lib.index s [13, 10] = k
  | 0, [], _, h => by simp [pairB] at h
  | 0, b :: l, _, h => by
    have h' : List.isPrefixOf [13, 10] (b :: l) = true := h
    rw [Lib.index, h']
    simp
  | k + 1, [], _, h => by simp [pairB] at h
  | k + 1, b :: l, hj, h => by
    have h0 : List.isPrefixOf [13, 10] (b :: l) = false := hj 0 (by omega)
    have ih := index_first k l (fun j hlt => hj (j + 1) (by omega)) h
    rw [Lib.index, h0, ih]
    have : ¬ ((k : Int) == -1) = true := by simp <;> omega
    simp [this]
theorem index_never : ∀ s : List UInt8, (∀ j, pairB s j = false) → Lib.index s [13, 10] = -1
  | [], _ => by simp [Lib.index]
  | b :: l, hj => by
    have h0 : List.isPrefixOf [13, 10] (b :: l) = false := hj 0
    have ih := index_never l (fun j => hj (j + 1))
    rw [Lib.index, h0, ih]
    simp
/-- No end before. -/
def NoPair (s : List UInt8) (k : Nat) : Prop := ∀ j, j < k → pairB s j = false
theorem noPair_succ {s : List UInt8} {k : Nat} (h : NoPair s k) (hk : pairB s k = false) : NoPair s (k + 1) := fun j hj => by
  rcases Nat.lt_or_ge j k with h1 | h1
  · exact h j h1
  · have : j = k := by omega
    rw [this]
    exact hk
theorem pair_far {s : ByteArray} {k : Nat} (h : ¬ k + 1 < s.size) : pairB s.data.toList k = false := by
  have hl : (s.data.toList.drop k).length ≤ 1 := by rw [List.length_drop, ← size_len]; omega
  unfold pairB
  generalize s.data.toList.drop k = t at hl
  match t, hl with
  | [], _ => rfl
  | [b], _ => simp [List.isPrefixOf]
theorem pair_at {s : ByteArray} {k : Nat} (h : k + 1 < s.size) : pairB s.data.toList k = (((s[k]'(by omega)).toNat : Int) == 13 && ((s[k + 1]'h).toNat : Int) == 10) := by
  have hk : k < s.data.toList.length := by rw [← size_len]; omega
  have hk1 : k + 1 < s.data.toList.length := by rw [← size_len]; omega
  have e1 : s.data.toList[k] = s[k]'(by omega) := rfl
  have e2 : s.data.toList[k + 1] = s[k + 1]'h := rfl
  unfold pairB
  rw [List.drop_eq_getElem_cons hk, List.drop_eq_getElem_cons hk1, e1, e2]
  generalize s[k]'(by omega) = a
  generalize s[k + 1]'h = b
  have ha : ((a.toNat : Int) == 13) = (13 == a) := by
    rw [Bool.eq_iff_iff, beq_iff_eq, beq_iff_eq]
    constructor
    · intro e
      exact (UInt8.toNat_inj.1 (by have : (13 : UInt8).toNat = 13 := rfl; omega))
    · rintro rfl
      rfl
  have hb : ((b.toNat : Int) == 10) = (10 == b) := by
    rw [Bool.eq_iff_iff, beq_iff_eq, beq_iff_eq]
    constructor
    · intro e
      exact (UInt8.toNat_inj.1 (by have : (10 : UInt8).toNat = 10 := rfl; omega))
    · rintro rfl
      rfl
  rw [ha, hb]
  simp [List.isPrefixOf]
theorem cut_at {s : ByteArray} {k : Nat} (h : NoPair s.data.toList k) (hk : pairB s.data.toList k = true) : s.extract 0 k = ⟨(Lib.cut s.data.toList [13, 10]).1.toArray⟩ ∧ s.extract (k + 2) s.size = ⟨(Lib.cut s.data.toList [13, 10]).2.1.toArray⟩ := by
  have hi := index_first k _ h hk
  have hc : Lib.cut s.data.toList [13, 10] = (s.data.toList.take k, s.data.toList.drop (k + 2), true) := by
    unfold Lib.cut
    rw [hi, if_pos (by omega)]
    simp
  rw [hc]
  constructor
  · apply ByteArray.ext
    apply Array.ext'
    rw [Lib.extract_data]
    simp
  · apply ByteArray.ext
    apply Array.ext'
    rw [Lib.extract_data, List.take_of_length_le]
    rw [List.length_drop, ← size_len]
    omega
theorem cut_none {s : ByteArray} {k : Nat} (h : NoPair s.data.toList k) (hk : ¬ k + 1 < s.size) : s = ⟨(Lib.cut s.data.toList [13, 10]).1.toArray⟩ ∧ (⟨#[]⟩ : ByteArray) = ⟨(Lib.cut s.data.toList [13, 10]).2.1.toArray⟩ := by
  have hi := index_never s.data.toList (fun j => by
    rcases Nat.lt_or_ge j k with h1 | h1
    · exact h j h1
    · exact pair_far (by omega))
  have hc : Lib.cut s.data.toList [13, 10] = (s.data.toList, [], false) := by
    unfold Lib.cut
    rw [hi, if_neg (by omega)]
  rw [hc]
  exact ⟨(bytes_of s).symm, rfl⟩
theorem prefix_ways (l : ByteArray) : (l.size < 6 ∧ Lib.hasPrefix l.data.toList markW = false) ∨ (6 ≤ l.size ∧ ((l.extract 0 6).toList == [77, 65, 82, 75, 58, 32]) = false ∧ Lib.hasPrefix l.data.toList markW = false)
    ∨ (6 ≤ l.size ∧ ((l.extract 0 6).toList == [77, 65, 82, 75, 58, 32]) = true ∧ Lib.hasPrefix l.data.toList markW = true ∧ (l.extract 6 l.size).data.toList = Lib.trimPrefix l.data.toList markW) := by
  have e1 : (l.extract 0 6).toList = l.data.toList.take 6 := by rw [bytes_list, Lib.extract_data]; simp
  have e2 : (l.extract 6 l.size).data.toList = l.data.toList.drop 6 := by
    rw [Lib.extract_data, List.take_of_length_le]
    rw [List.length_drop, ← size_len]
    omega
  have hm : markW.length = 6 := rfl
  have hpre : Lib.hasPrefix l.data.toList markW = true ↔ ∃ t, l.data.toList = markW ++ t := by
    unfold Lib.hasPrefix
    rw [List.isPrefixOf_iff_prefix]
    exact ⟨fun ⟨t, h⟩ => ⟨t, h.symm⟩, fun ⟨t, h⟩ => ⟨t, h.symm⟩⟩
  rw [e1, e2]
  rcases Nat.lt_or_ge l.size 6 with h | h
  · refine .inl ⟨h, ?_⟩
    rw [← Bool.not_eq_true, hpre]
    rintro ⟨t, ht⟩
    rw [size_len, ht, List.length_append, hm] at h
    omega
  · right
    cases hb : (l.data.toList.take 6 == [77, 65, 82, 75, 58, 32]) with
    | false =>
      refine .inl ⟨h, rfl, ?_⟩
      rw [← Bool.not_eq_true, hpre]
      rintro ⟨t, ht⟩
      rw [ht] at hb
      simp [markW] at hb
    | true =>
      rw [beq_iff_eq] at hb
      have hp : Lib.hasPrefix l.data.toList markW = true := hpre.2 ⟨l.data.toList.drop 6, by
        have e := List.take_append_drop 6 l.data.toList
        rw [hb] at e
        exact e.symm⟩
      refine .inr ⟨h, rfl, hp, ?_⟩
      unfold Lib.trimPrefix
      rw [hp, if_pos rfl, hm]

set_option maxHeartbeats 4000000 in
set_option maxRecDepth 100000 in
theorem rread_any (B n c n' c' : Nat) (A A' : Option Addr) (ss ss' : List ByteArray) (s : ByteArray) (w : World) (hB : B ≤ w.heap.size) (h1 : Strs w B A n c ss) (h2 : Strs w B A' n' c' ss') (hsz : ∀ s ∈ ss ++ ss', s.size ≤ maxLen) (hs : s.size < 4294967281) :
    Calls Tryd.prog 30 #[.agg #[.slice A n c, .slice A' n' c'], .string s] w fun e w' => e = .returned (readV (readB ss ss' s.data.toList)) ∧ Below w.heap.size w w' := by
  have hb0 : Below w.heap.size w ((w.alloc (.cells #[.slice A n c, .slice A' n' c'] 24)).alloc (.cells #[.int .i64 0, .int .u64 0] 27)) := ((Below.refl _ _).alloc (Nat.le_refl _) _).alloc (by simp) _
  obtain ⟨x, hr⟩ : ∃ x, rightB ss ss' = x := ⟨_, rfl⟩
  have hrb : readB ss ss' s.data.toList = if x = true then readF ss ss' s.data.toList else ((0, 0), [], 2) := by unfold readB; rw [hr]
  rw [hrb]
  have Hr := Lib.hid hr
  clear hrb hr
  go_enter Tryd.func30, Tryd.ntmps30
  go_wp2_with fail
  refine (rright_any B n c n' c' A A' ss ss' _ (by simp; omega) ((h1.alloc hB _).alloc (by simp; omega) _) ((h2.alloc hB _).alloc (by simp; omega) _) hsz).mono ?_
  rintro e w1 ⟨rfl, hb1⟩
  rw [Hr.out]
  have k0 : w1.cell? ⟨w.heap.size + 1, 0, none⟩ = some (.int .i64 0) := by rw [hb1.cell (by simp)]; go_simp
  have k1 : w1.cell? ⟨w.heap.size + 1, 1, none⟩ = some (.int .u64 0) := by rw [hb1.cell (by simp)]; go_simp
  have q0 : w1.frozen? ⟨w.heap.size + 1, 0, none⟩ = false := by rw [hb1.frozen (by simp)]; go_simp
  have q1 : w1.frozen? ⟨w.heap.size + 1, 1, none⟩ = false := by rw [hb1.frozen (by simp)]; go_simp
  have d0 : w1.cell? ⟨w.heap.size, 0, none⟩ = some (.slice A n c) := by rw [hb1.cell (by simp; omega)]; go_simp
  have d1 : w1.cell? ⟨w.heap.size, 1, none⟩ = some (.slice A' n' c') := by rw [hb1.cell (by simp; omega)]; go_simp
  have hz1 : w.heap.size + 2 ≤ w1.heap.size := by have := hb1.size; simp at this; omega
  have hbw : Below w.heap.size w w1 := hb0.trans (hb1.mono (by simp; omega))
  have s1 := h1.below (hbw.mono hB)
  have s2 := h2.below (hbw.mono hB)
  clear hb1 hb0 h1 h2
  cases x
  · go_wp2
    exact bodyPost_ret (v := .tuple #[.agg #[.int .i64 0, .int .u64 0], .string ⟨#[]⟩, .int .i64 2]) (by simp [results, Tryd.results30, go_sem, k0, k1]) rfl ⟨rfl, (hbw.setCell (p := ⟨w.heap.size + 1, 0, none⟩) (by simp) _).setCell (p := ⟨w.heap.size + 1, 1, none⟩) (by simp) _⟩
  go_upto_block 0 with fail
  go_cut [7, 8] from 9 (fun l r wc => l = .string ⟨(Lib.cut s.data.toList [13, 10]).1.toArray⟩ ∧ r = .string ⟨(Lib.cut s.data.toList [13, 10]).2.1.toArray⟩ ∧ wc = w1)
  case first =>
    clear k0 k1 q0 q1 d0 d1 s1 s2 hbw
    go_wp2_with fail
    go_loop [7, 8, 9] (fun l r i => ∃ k : Nat, k ≤ s.size ∧ i = .int .i64 k ∧ l = .string s ∧ r = .string ⟨#[]⟩ ∧ NoPair s.data.toList k) (fun _ _ i => s.size - (intOf i).toNat)
    case atStart => exact ⟨0, Nat.zero_le _, rfl, rfl, rfl, fun j hj => by omega⟩
    case round =>
      obtain ⟨k, hk, rfl, rfl, rfl, hnp⟩ := hrel
      have Hnp := Lib.hid hnp
      clear hnp
      by_cases hlt : k + 1 < s.size
      · have hpa := pair_at hlt
        obtain ⟨y, hy⟩ : ∃ y, (((s[k]'(by omega)).toNat : Int) == 13) = y := ⟨_, rfl⟩
        obtain ⟨z, hz⟩ : ∃ z, (((s[k + 1]'hlt).toNat : Int) == 10) = z := ⟨_, rfl⟩
        rw [hy, hz] at hpa
        have Hpa := Lib.hid hpa
        clear hpa
        cases y
        · go_wp2
          go_round
          case rel => exact ⟨k + 1, by omega, by go_num, rfl, rfl, noPair_succ Hnp.out Hpa.out⟩
          case measure => simp [intOf]; omega
        · cases z
          · go_wp2
            go_round
            case rel => exact ⟨k + 1, by omega, by go_num, rfl, rfl, noPair_succ Hnp.out Hpa.out⟩
            case measure => simp [intOf]; omega
          · have Hc := Lib.hid (cut_at Hnp.out Hpa.out)
            go_wp2
            go_meet
            exact ⟨by rw [← Hc.out.1], by rw [← Hc.out.2], rfl⟩
      · have Hc := Lib.hid (cut_none Hnp.out hlt)
        go_wp2
        go_meet
        exact ⟨by rw [← Hc.out.1], by rw [← Hc.out.2], rfl⟩
  case rest =>
    obtain ⟨rfl, rfl, rfl⟩ := hcut
    have hrf : readF ss ss' s.data.toList = (if Lib.hasPrefix (Lib.cut s.data.toList [13, 10]).1 markW = true then (match parseB ss ss' (Lib.trimPrefix (Lib.cut s.data.toList [13, 10]).1 markW) with | none => ((0, 0), [], 11) | some q => (q, (Lib.cut s.data.toList [13, 10]).2.1, 0)) else ((0, 0), [], 11) : (Nat × Int) × List UInt8 × Int) := by
      unfold readF parseB
      rw [if_pos Hr.out]
      cases parseF (idxF ss) (idxF ss') (Lib.trimPrefix (Lib.cut s.data.toList [13, 10]).1 markW) <;> rfl
    obtain ⟨l, hl⟩ : ∃ l : ByteArray, l = ⟨(Lib.cut s.data.toList [13, 10]).1.toArray⟩ := ⟨_, rfl⟩
    obtain ⟨r, hrr⟩ : ∃ r : ByteArray, r = ⟨(Lib.cut s.data.toList [13, 10]).2.1.toArray⟩ := ⟨_, rfl⟩
    have hll : (Lib.cut s.data.toList [13, 10]).1 = l.data.toList := by rw [hl]
    have hrl : (⟨(Lib.cut s.data.toList [13, 10]).2.1.toArray⟩ : ByteArray) = r := hrr.symm
    have hls : l.size ≤ s.size := by
      rw [size_len, ← hll, size_len]
      exact (cut_len s.data.toList [13, 10]).1
    rw [hll] at hrf
    rw [← hl, ← hrr]
    have Hrf := Lib.hid hrf
    have Hrl := Lib.hid hrl
    clear hrf hll hrl hl hrr
    rcases prefix_ways l with ⟨g1, g2⟩ | ⟨g1, g2, g3⟩ | ⟨g1, g2, g3, g4⟩
    · have Hfin : Hid (readF ss ss' s.data.toList = ((0, 0), [], 11)) := Lib.hid (by rw [Hrf.out, g2]; rfl)
      clear g2
      go_wp2
      exact bodyPost_ret (v := .tuple #[.agg #[.int .i64 0, .int .u64 0], .string ⟨#[]⟩, .int .i64 11]) (by simp [results, Tryd.results30, go_sem, k0, k1]) rfl ⟨by rw [Hfin.out]; rfl, (hbw.setCell (p := ⟨w.heap.size + 1, 0, none⟩) (by simp) _).setCell (p := ⟨w.heap.size + 1, 1, none⟩) (by simp) _⟩
    · have Hfin : Hid (readF ss ss' s.data.toList = ((0, 0), [], 11)) := Lib.hid (by rw [Hrf.out, g3]; rfl)
      clear g3
      go_wp2
      exact bodyPost_ret (v := .tuple #[.agg #[.int .i64 0, .int .u64 0], .string ⟨#[]⟩, .int .i64 11]) (by simp [results, Tryd.results30, go_sem, k0, k1]) rfl ⟨by rw [Hfin.out]; rfl, (hbw.setCell (p := ⟨w.heap.size + 1, 0, none⟩) (by simp) _).setCell (p := ⟨w.heap.size + 1, 1, none⟩) (by simp) _⟩
    · have hmatch : readF ss ss' s.data.toList = (match parseB ss ss' (Lib.trimPrefix l.data.toList markW) with | none => ((0, 0), [], 11) | some q => (q, (Lib.cut s.data.toList [13, 10]).2.1, 0) : (Nat × Int) × List UInt8 × Int) := by rw [Hrf.out, g3, if_pos rfl]
      have hq2 : (l.extract 6 l.size).data.toList = Lib.trimPrefix l.data.toList markW := g4
      generalize Lib.trimPrefix l.data.toList markW = tx at hmatch hq2
      have hq3 : parseB ss ss' (l.extract 6 l.size).data.toList = parseB ss ss' tx := by rw [hq2]
      generalize parseB ss ss' tx = q at hmatch hq3
      have Hfin := Lib.hid hmatch
      have Hq := Lib.hid hq3
      clear g3 g4 hmatch hq2 hq3
      have hKw : Hid (∀ W, Below wc.heap.size wc W → W.cell? ⟨w.heap.size, 0, none⟩ = some (.slice A n c) ∧ W.cell? ⟨w.heap.size, 1, none⟩ = some (.slice A' n' c') ∧ W.cell? ⟨w.heap.size + 1, 0, none⟩ = some (.int .i64 0) ∧ W.cell? ⟨w.heap.size + 1, 1, none⟩ = some (.int .u64 0) ∧ W.frozen? ⟨w.heap.size + 1, 0, none⟩ = false ∧ W.frozen? ⟨w.heap.size + 1, 1, none⟩ = false ∧ Strs W B A n c ss ∧ Strs W B A' n' c' ss' ∧ w.heap.size + 2 ≤ W.heap.size ∧ Below w.heap.size w W) := Lib.hid fun W hb =>
        ⟨(hb.cell (p := ⟨w.heap.size, 0, none⟩) (by simp; omega)).trans d0, (hb.cell (p := ⟨w.heap.size, 1, none⟩) (by simp; omega)).trans d1, (hb.cell (p := ⟨w.heap.size + 1, 0, none⟩) (by simp; omega)).trans k0, (hb.cell (p := ⟨w.heap.size + 1, 1, none⟩) (by simp; omega)).trans k1,
          (hb.frozen (p := ⟨w.heap.size + 1, 0, none⟩) (by simp; omega)).trans q0, (hb.frozen (p := ⟨w.heap.size + 1, 1, none⟩) (by simp; omega)).trans q1, s1.below (hb.mono (by omega)), s2.below (hb.mono (by omega)), by have := hb.size; omega, hbw.trans (hb.mono (by omega))⟩
      have Hpar : Hid (∀ W, Below wc.heap.size wc W → Calls Tryd.prog 15 #[.agg #[.slice A n c, .slice A' n' c'], .string (l.extract 6 l.size)] W fun e V => e = .returned (parseV q) ∧ Below W.heap.size W V ∧ Below wc.heap.size wc V) := Lib.hid fun W hb => by
        have := rparse_any B n c n' c' A A' ss ss' (l.extract 6 l.size) W (by have := hb.size; omega) (s1.below (hb.mono (by omega))) (s2.below (hb.mono (by omega))) hsz
        rw [Hq.out] at this
        exact this.mono fun e V ⟨he, hV⟩ => ⟨he, hV, hb.trans (hV.mono hb.size)⟩
      have hbr := Below.refl wc.heap.size wc
      have hy0 : w.heap.size < wc.heap.size := by omega
      have hy1 : w.heap.size + 1 < wc.heap.size := by omega
      rcases q with _ | ⟨L, k⟩
      · simp only [parseV] at Hpar
        go_wp2_with fail
        go_region_with (first | (go_at_call 15; refine (Hpar.out _ (by go_grown)).mono ?_; rintro e w2 ⟨rfl, hb2, hx2⟩; obtain ⟨e0, e1, f0, f1, p0, p1, t1, t2, hz2, hw2⟩ := hKw.out _ hx2; have hzz2 := hb2.size; (try simp at hzz2); (try (have hyy2 : wc.heap.size < w2.heap.size := by omega)); (have hy2 : w.heap.size + 1 < w2.heap.size := by omega); (try (have ka0 : w2.cell? ⟨wc.heap.size, 0, none⟩ = some (.int .i64 0) := by rw [hb2.cell (by simp)]; go_simp)); (try (have ka1 : w2.cell? ⟨wc.heap.size, 1, none⟩ = some (.int .u64 0) := by rw [hb2.cell (by simp)]; go_simp)); (try (have qa0 : w2.frozen? ⟨wc.heap.size, 0, none⟩ = false := by rw [hb2.frozen (by simp)]; go_simp)); (try (have qa1 : w2.frozen? ⟨wc.heap.size, 1, none⟩ = false := by rw [hb2.frozen (by simp)]; go_simp))))
        all_goals
          go_wp2
          exact bodyPost_ret (v := .tuple #[.agg #[.int .i64 0, .int .u64 0], .string ⟨#[]⟩, .int .i64 11]) (by first | (simp [results, Tryd.results30, go_sem, f0, f1]; done) | (simp [results, Tryd.results30, go_sem, f0, f1, hy2]; done) | (trace_state; fail)) rfl ⟨by rw [Hfin.out]; rfl, by go_grown⟩
      · simp only [parseV] at Hpar
        go_wp2_with fail
        go_region_with (first | (go_at_call 15; refine (Hpar.out _ (by go_grown)).mono ?_; rintro e w2 ⟨rfl, hb2, hx2⟩; obtain ⟨e0, e1, f0, f1, p0, p1, t1, t2, hz2, hw2⟩ := hKw.out _ hx2; have hzz2 := hb2.size; (try simp at hzz2); (try (have hyy2 : wc.heap.size < w2.heap.size := by omega)); (have hy2 : w.heap.size + 1 < w2.heap.size := by omega); (try (have ka0 : w2.cell? ⟨wc.heap.size, 0, none⟩ = some (.int .i64 0) := by rw [hb2.cell (by simp)]; go_simp)); (try (have ka1 : w2.cell? ⟨wc.heap.size, 1, none⟩ = some (.int .u64 0) := by rw [hb2.cell (by simp)]; go_simp)); (try (have qa0 : w2.frozen? ⟨wc.heap.size, 0, none⟩ = false := by rw [hb2.frozen (by simp)]; go_simp)); (try (have qa1 : w2.frozen? ⟨wc.heap.size, 1, none⟩ = false := by rw [hb2.frozen (by simp)]; go_simp))))
        all_goals
          go_wp2
          exact bodyPost_ret (v := .tuple #[.agg #[.int .i64 L, .int .u64 k], .string r, .int .i64 0]) (by first | (simp [results, Tryd.results30, go_sem, f0, f1]; done) | (simp [results, Tryd.results30, go_sem, f0, f1, hy2]; done) | (trace_state; fail)) rfl ⟨by rw [Hfin.out]; simp only [readV]; rw [Hrl.out], by go_grown⟩
end Go.Proofs.YtkjiaklpffnhlaaDoor
