/-
  What lattice.printRight and Print come to, for any two lists of strings and any label, in any memory: told by a plain function. Conditions: the strings are at most 16 bytes long where they are printed (they are, in a right lattice).
-/
import Derived.Test.YtkjiaklpffnhlaaDoorRight
import Derived.Test.YtkjiaklpffnhlaaDoorHas
import Derived.Test.YtkjiaklpffnhlaaDoorBuild
import Derived.Test.YtkjiaklpffnhlaaDoorShelf
import Derived.Deep.LoopGhost
namespace Go.Proofs.YtkjiaklpffnhlaaDoor
open Go.RowKit

/-- Has the set of bits k the bit i? -/
def bitB (k : Int) (i : Nat) : Bool := bits .and .u64 (k / 2 ^ i) 1 == 1
/-- The compartments' text, up to the i-th one. -/
def tailT (cs : List ByteArray) (k : Int) : Nat → List UInt8
  | 0 => []
  | i + 1 => if bitB k i then tailT cs k i ++ (if tailT cs k i = [] then [47, 47] else [47]) ++ (cs.getD i ByteArray.empty).data.toList else tailT cs k i
/-- A label's text. -/
def textT (ls cs : List ByteArray) (l k : Int) : List UInt8 := (ls.getD l.toNat ByteArray.empty).data.toList ++ tailT cs k cs.length
theorem tailT_yes {cs : List ByteArray} {k : Int} {i : Nat} (h : bitB k i = true) : tailT cs k (i + 1) = tailT cs k i ++ (if tailT cs k i = [] then [47, 47] else [47]) ++ (cs.getD i ByteArray.empty).data.toList := by
  rw [tailT, if_pos h]
theorem tailT_no {cs : List ByteArray} {k : Int} {i : Nat} (h : bitB k i = false) : tailT cs k (i + 1) = tailT cs k i := by
  rw [tailT, if_neg (by simp [h])]
theorem tailT_len {cs : List ByteArray} (hsz : ∀ s ∈ cs, s.size ≤ 16) (k : Int) : ∀ i, (tailT cs k i).length ≤ 18 * i
  | 0 => by simp [tailT]
  | i + 1 => by
    have ih := tailT_len hsz k i
    have hx : (cs.getD i ByteArray.empty).size ≤ 16 := by
      by_cases h : i < cs.length
      · rw [List.getD, List.getElem?_eq_getElem h]
        exact hsz _ (List.getElem_mem h)
      · rw [List.getD, List.getElem?_eq_none (by omega)]
        decide
    by_cases h : bitB k i = true
    · rw [tailT_yes h]
      generalize cs.getD i ByteArray.empty = y at hx ⊢
      have hy : y.data.toList.length = y.size := rfl
      simp only [List.length_append, hy]
      split <;> simp <;> omega
    · rw [tailT_no (by simpa using h)]
      omega
def sepT (cs : List ByteArray) (k : Int) (i : Nat) : ByteArray := if tailT cs k i = [] then ⟨#[47, 47]⟩ else ⟨#[47]⟩
theorem sepT_data (cs : List ByteArray) (k : Int) (i : Nat) : (sepT cs k i).data.toList = if tailT cs k i = [] then [47, 47] else [47] := by
  unfold sepT; split <;> rfl
theorem sepT_size (cs : List ByteArray) (k : Int) (i : Nat) : (sepT cs k i).size ≤ 2 := by
  unfold sepT; split <;> decide
theorem sepT_no {cs : List ByteArray} {k : Int} {i : Nat} (h : bitB k i = false) : sepT cs k (i + 1) = sepT cs k i := by
  unfold sepT; rw [tailT_no h]
theorem sepT_yes {cs : List ByteArray} {k : Int} {i : Nat} (h : bitB k i = true) : sepT cs k (i + 1) = ⟨#[47]⟩ := by
  unfold sepT
  rw [if_neg]
  rw [tailT_yes h]
  split <;> simp

set_option maxHeartbeats 2000000 in
set_option maxRecDepth 100000 in
theorem printRight_no (n c n' c' : Nat) (A A' : Option Addr) (l k : Int) (w : World) (hno : hasB n n' l k = false) :
    Calls Tryd.prog 38 #[.agg #[.slice A n c, .slice A' n' c'], .agg #[.int .i64 l, .int .u64 k]] w fun e w' => e = .returned (.tuple #[.string ⟨#[]⟩, .int .i64 8]) ∧ Below w.heap.size w w' := by
  go_enter Tryd.func38, Tryd.ntmps38
  go_wp2_with fail
  refine (has_any n c n' c' A A' l k _).mono ?_
  rintro e w1 ⟨rfl, hb1⟩
  rw [hno]
  go_wp2
  go_ret2
  exact ⟨rfl, (((Below.refl _ _).alloc (Nat.le_refl _) _).alloc (by simp) _).trans (hb1.mono (by simp; omega))⟩

set_option maxHeartbeats 2000000 in
set_option maxRecDepth 100000 in
theorem printRight_yes (B n c n' c' : Nat) (A A' : Option Addr) (ss ss' : List ByteArray) (l k : Int) (w : World) (hB : B ≤ w.heap.size) (h1 : Strs w B A n c ss) (h2 : Strs w B A' n' c' ss') (hyes : hasB n n' l k = true)
    (hn : n' ≤ 64) (hsz : ∀ s ∈ ss ++ ss', s.size ≤ 16) :
    Calls Tryd.prog 38 #[.agg #[.slice A n c, .slice A' n' c'], .agg #[.int .i64 l, .int .u64 k]] w fun e w' => e = .returned (.tuple #[.string ⟨(textT ss ss' l k).toArray⟩, .int .i64 0]) ∧ Below w.heap.size w w' := by
  have hy := hyes
  unfold hasB at hy
  simp only [Bool.and_eq_true, decide_eq_true_eq] at hy
  obtain ⟨⟨hl0, hln⟩, _⟩ := hy
  obtain ⟨L, rfl⟩ := Int.eq_ofNat_of_zero_le hl0
  obtain ⟨b, off, rfl, hb, hc⟩ := h1.at_ (k := L) (by omega)
  have hcL := hc L (by omega)
  obtain ⟨x, hx⟩ : ∃ x, ss.getD L ByteArray.empty = x := ⟨_, rfl⟩
  rw [hx] at hcL
  have Hx := Lib.hid hx
  have Hl2 := Lib.hid h2.len
  have hsx : x.size ≤ 16 := by
    have hkl : L < ss.length := by rw [h1.len]; omega
    rw [← hx, List.getD, List.getElem?_eq_getElem hkl]
    exact hsz _ (List.mem_append_left _ (List.getElem_mem hkl))
  clear hc hx
  go_enter Tryd.func38, Tryd.ntmps38
  go_wp2_with fail
  refine (has_any n c n' c' _ A' L k _).mono ?_
  rintro e w1 ⟨rfl, hb1⟩
  rw [hyes]
  have hz1 : w.heap.size + 2 ≤ w1.heap.size := by have := hb1.size; simp at this; omega
  have hbw : Below w.heap.size w w1 := (((Below.refl _ _).alloc (Nat.le_refl _) _).alloc (by simp) _).trans (hb1.mono (by simp; omega))
  have d0 : w1.cell? ⟨w.heap.size, 0, none⟩ = some (.slice (some ⟨b, off, none⟩) n c) := by rw [hb1.cell (by simp; omega)]; go_simp
  have d1 : w1.cell? ⟨w.heap.size, 1, none⟩ = some (.slice A' n' c') := by rw [hb1.cell (by simp; omega)]; go_simp
  have d2 : w1.cell? ⟨w.heap.size + 1, 0, none⟩ = some (.int .i64 L) := by rw [hb1.cell (by simp)]; go_simp
  have d3 : w1.cell? ⟨w.heap.size + 1, 1, none⟩ = some (.int .u64 k) := by rw [hb1.cell (by simp)]; go_simp
  have d4 : w1.cell? ⟨b, off + L, none⟩ = some (.string x) := by rw [hbw.cell (by simp; omega)]; exact hcL
  have hz2 : w.heap.size < w1.heap.size := by omega
  have hz3 : w.heap.size + 1 < w1.heap.size := by omega
  have hz4 : b < w1.heap.size := by omega
  clear hb1 hyes hcL
  go_wp2_with fail
  refine (bwrite_any w1.heap.size w1.heap.size [] x _ (Lib.fresh_isBuilder _ _ _) (by have := hsx; simp; omega) (by simp)).mono ?_
  rintro e w2 ⟨rfl, hbu, hb2⟩
  have e0 : w2.cell? ⟨w.heap.size, 1, none⟩ = some (.slice A' n' c') := by rw [hb2.cell (by simp; omega)]; go_simp
  have e1 : w2.cell? ⟨w.heap.size + 1, 1, none⟩ = some (.int .u64 k) := by rw [hb2.cell (by simp; omega)]; go_simp
  have hbw2 : Below w1.heap.size w1 w2 := ((Below.refl _ _).alloc (Nat.le_refl _) _).trans hb2
  have hz5 : w1.heap.size < w2.heap.size := hbu.lt
  have hbu0 : Lib.IsBuilder 95 5 w1.heap.size w1.heap.size (Lib.byteCells (x.data.toList ++ tailT ss' k 0)) w2 := .inr (by simpa [tailT, Lib.strCells_eq] using hbu)
  have hs2 : Strs w B A' n' c' ss' := h2
  clear h1 h2 hb2 hbu d0 d1 d2 d3 d4 hb
  go_wp2
  go_loopw [7, 24] (fun q i wr => ∃ j : Nat, j ≤ n' ∧ i = .int .i64 j ∧ q = .string (sepT ss' k j) ∧ Lib.IsBuilder 95 5 w1.heap.size w1.heap.size (Lib.byteCells (x.data.toList ++ tailT ss' k j)) wr ∧ Below w1.heap.size w1 wr ∧ w1.heap.size < wr.heap.size ∧ wr.cell? ⟨w.heap.size + 1, 1, none⟩ = some (.int .u64 k))
    (fun _ i _ => n' - (intOf i).toNat)
  case atStart => exact ⟨0, Nat.zero_le _, rfl, rfl, hbu0, hbw2, hz5, e1⟩
  case round =>
    obtain ⟨j, hj, rfl, rfl, hbu, hnx, hz6, f1⟩ := hrel
    clear hbu0 hz5 e0 e1
    by_cases hlt : j < n'
    · have hst := (hs2.below ((hbw.mono hB).trans (hnx.mono (by omega))))
      obtain ⟨b', off', rfl, hb', hc'⟩ := hst.at_ hlt
      have hcx := hc' j hlt
      obtain ⟨y, hy⟩ : ∃ y, ss'.getD j ByteArray.empty = y := ⟨_, rfl⟩
      rw [hy] at hcx
      have hsy : y.size ≤ 16 := by
        have hkl : j < ss'.length := by rw [Hl2.out]; exact hlt
        rw [← hy, List.getD, List.getElem?_eq_getElem hkl]
        exact hsz _ (List.mem_append_right _ (List.getElem_mem hkl))
      have htl := tailT_len (cs := ss') (fun s hs => hsz s (List.mem_append_right _ hs)) k j
      have hsl := sepT_size ss' k j
      clear hst hc'
      have hxl : x.data.toList.length = x.size := rfl
      by_cases hbit : bitB k j = true
      · have ht1 := tailT_yes (cs := ss') hbit
        rw [hy, ← sepT_data] at ht1
        have hs1 := sepT_yes (cs := ss') hbit
        have hbt : (bits BinOp.and IntKind.u64 (k / 2 ^ j) 1 == 1) = true := hbit
        have hl1 : (x.data.toList ++ tailT ss' k j).length ≤ 16 + 18 * 64 := by
          rw [List.length_append, hxl]; omega
        have Ht1 := Lib.hid ht1
        have Hs1 := Lib.hid hs1
        have Hxl := Lib.hid hxl
        clear ht1 hs1 hbit hy hxl
        go_wp2_with fail
        refine (bwrite_any w1.heap.size w1.heap.size _ (sepT ss' k j) _ hbu (by rw [Lib.byteCells_length]; omega) (by omega)).mono ?_
        rintro e w3 ⟨rfl, hbu3, hb3⟩
        have hlt3 := hbu3.lt
        have hbu3' : Lib.IsBuilder 95 5 w1.heap.size w1.heap.size _ w3 := .inr hbu3
        go_wp2_with fail
        refine (bwrite_any w1.heap.size w1.heap.size _ y _ hbu3' (by rw [List.length_append, Lib.byteCells_length, Lib.strCells_length]; omega) (by omega)).mono ?_
        rintro e w4 ⟨rfl, hbu4, hb4⟩
        have hlt4 := hbu4.lt
        go_wp2
        go_roundw
        case rel =>
          refine ⟨j + 1, by omega, by go_num, by rw [Hs1.out], .inr ?_, hnx.trans (hb3.trans hb4), hlt4, ?_⟩
          · have e4 : Lib.byteCells (x.data.toList ++ tailT ss' k j) ++ Lib.strCells (sepT ss' k j) ++ Lib.strCells y = Lib.byteCells (x.data.toList ++ tailT ss' k (j + 1)) := by
              rw [Ht1.out, Lib.strCells_eq, Lib.strCells_eq]
              simp only [Lib.byteCells_append, List.append_assoc]
            rw [← e4]
            exact hbu4
          · rw [(hb3.trans hb4).cell (by simp; omega)]
            exact f1
        case measure => simp [intOf]; omega
      · have hbit' : bitB k j = false := by simpa using hbit
        have ht1 := tailT_no (cs := ss') hbit'
        have hs1 := sepT_no (cs := ss') hbit'
        have hbt : (bits BinOp.and IntKind.u64 (k / 2 ^ j) 1 == 1) = false := hbit'
        have Ht1 := Lib.hid ht1
        have Hs1 := Lib.hid hs1
        clear ht1 hs1 hbit hbit' hy hxl
        go_wp2
        go_roundw
        case rel => exact ⟨j + 1, by omega, by go_num, by rw [Hs1.out], by rw [Ht1.out]; exact hbu, hnx, hz6, f1⟩
        case measure => simp [intOf]; omega
    · have hj' : j = n' := by omega
      have hfin : textT ss ss' L k = x.data.toList ++ tailT ss' k j := by
        unfold textT
        rw [Int.toNat_natCast, Hx.out, Hl2.out, hj']
      have Hfin := Lib.hid hfin
      clear hfin hj'
      go_wp2_with fail
      refine (Tryd.Builder_String_any w1.heap.size w1.heap.size _ _ hbu (by omega)).mono ?_
      rintro e w5 ⟨rfl, hb5⟩
      go_wp2
      go_ret2
      exact ⟨by rw [Hfin.out]; rfl, hbw.trans ((hnx.trans hb5).mono (by omega))⟩

/-- A label's text, or the error, as the code answers. -/
def printB (ls cs : List ByteArray) (l k : Int) : List UInt8 × Int :=
  if rightB ls cs = true then (if hasB ls.length cs.length l k = true then (textT ls cs l k, 0) else ([], 8)) else ([], 2)

theorem right_sizes {ls cs : List ByteArray} (h : rightB ls cs = true) : ∀ s ∈ ls ++ cs, s.size ≤ 16 := by
  unfold rightB goodB at h
  simp only [Bool.and_eq_true, decide_eq_true_eq, List.all_eq_true] at h
  intro s hs
  have := h.2.2 s hs
  unfold nameB at this
  simp only [Bool.and_eq_true, decide_eq_true_eq] at this
  exact this.1.2
theorem right_comps {ls cs : List ByteArray} (h : rightB ls cs = true) : cs.length ≤ 64 := by
  unfold rightB at h
  simp only [Bool.and_eq_true, decide_eq_true_eq] at h
  exact h.1.2

set_option maxHeartbeats 2000000 in
set_option maxRecDepth 100000 in
theorem print_any (B n c n' c' : Nat) (A A' : Option Addr) (ss ss' : List ByteArray) (l k : Int) (w : World) (hB : B ≤ w.heap.size) (h1 : Strs w B A n c ss) (h2 : Strs w B A' n' c' ss') (hsz : ∀ s ∈ ss ++ ss', s.size ≤ maxLen) :
    Calls Tryd.prog 12 #[.agg #[.slice A n c, .slice A' n' c'], .agg #[.int .i64 l, .int .u64 k]] w fun e w' => e = .returned (.tuple #[.string ⟨(printB ss ss' l k).1.toArray⟩, .int .i64 (printB ss ss' l k).2]) ∧ Below w.heap.size w w' := by
  have hl1 := h1.len
  have hl2 := h2.len
  cases hr : rightB ss ss' with
  | false =>
    have hp : printB ss ss' l k = ([], 2) := by unfold printB; rw [hr]; rfl
    rw [hp]
    clear hp hl1 hl2
    have Hr := Lib.hid hr
    clear hr
    go_enter Tryd.func12, Tryd.ntmps12
    go_wp2_with fail
    refine (right_any B n c n' c' A A' ss ss' _ (by simp; omega) ((h1.alloc hB _).alloc (by simp; omega) _) ((h2.alloc hB _).alloc (by simp; omega) _) hsz).mono ?_
    rintro e w1 ⟨rfl, hb1⟩
    rw [Hr.out]
    go_wp2
    go_ret2
    exact ⟨rfl, (((Below.refl _ _).alloc (Nat.le_refl _) _).alloc (by simp) _).trans (hb1.mono (by simp; omega))⟩
  | true =>
    have hs16 := right_sizes hr
    have hc64 := right_comps hr
    rw [hl2] at hc64
    cases hh : hasB n n' l k with
    | false =>
      have hp : printB ss ss' l k = ([], 8) := by unfold printB; rw [hr, hl1, hl2, hh]; rfl
      rw [hp]
      clear hp hl1 hl2
      have Hr := Lib.hid hr
      have Hh := Lib.hid hh
      clear hr hh
      go_enter Tryd.func12, Tryd.ntmps12
      go_wp2_with fail
      refine (right_any B n c n' c' A A' ss ss' _ (by simp; omega) ((h1.alloc hB _).alloc (by simp; omega) _) ((h2.alloc hB _).alloc (by simp; omega) _) hsz).mono ?_
      rintro e w1 ⟨rfl, hb1⟩
      rw [Hr.out]
      have d0 : w1.cell? ⟨w.heap.size, 0, none⟩ = some (.slice A n c) := by rw [hb1.cell (by simp; omega)]; go_simp
      have d1 : w1.cell? ⟨w.heap.size, 1, none⟩ = some (.slice A' n' c') := by rw [hb1.cell (by simp; omega)]; go_simp
      have d2 : w1.cell? ⟨w.heap.size + 1, 0, none⟩ = some (.int .i64 l) := by rw [hb1.cell (by simp)]; go_simp
      have d3 : w1.cell? ⟨w.heap.size + 1, 1, none⟩ = some (.int .u64 k) := by rw [hb1.cell (by simp)]; go_simp
      go_wp2_with fail
      refine (printRight_no n c n' c' A A' l k _ Hh.out).mono ?_
      rintro e w2 ⟨rfl, hb2⟩
      have hz1 : w.heap.size + 2 ≤ w1.heap.size := by have := hb1.size; simp at this; omega
      go_wp2
      go_ret2
      exact ⟨rfl, ((((Below.refl _ _).alloc (Nat.le_refl _) _).alloc (by simp) _).trans (hb1.mono (by simp; omega))).trans (hb2.mono (by omega))⟩
    | true =>
      have hp : printB ss ss' l k = (textT ss ss' l k, 0) := by unfold printB; rw [hr, hl1, hl2, hh]; rfl
      rw [hp]
      clear hp hl1 hl2
      have Hr := Lib.hid hr
      have Hh := Lib.hid hh
      clear hr hh
      go_enter Tryd.func12, Tryd.ntmps12
      go_wp2_with fail
      refine (right_any B n c n' c' A A' ss ss' _ (by simp; omega) ((h1.alloc hB _).alloc (by simp; omega) _) ((h2.alloc hB _).alloc (by simp; omega) _) hsz).mono ?_
      rintro e w1 ⟨rfl, hb1⟩
      rw [Hr.out]
      have d0 : w1.cell? ⟨w.heap.size, 0, none⟩ = some (.slice A n c) := by rw [hb1.cell (by simp; omega)]; go_simp
      have d1 : w1.cell? ⟨w.heap.size, 1, none⟩ = some (.slice A' n' c') := by rw [hb1.cell (by simp; omega)]; go_simp
      have d2 : w1.cell? ⟨w.heap.size + 1, 0, none⟩ = some (.int .i64 l) := by rw [hb1.cell (by simp)]; go_simp
      have d3 : w1.cell? ⟨w.heap.size + 1, 1, none⟩ = some (.int .u64 k) := by rw [hb1.cell (by simp)]; go_simp
      have hz1 : w.heap.size + 2 ≤ w1.heap.size := by have := hb1.size; simp at this; omega
      have hbw : Below w.heap.size w w1 := (((Below.refl _ _).alloc (Nat.le_refl _) _).alloc (by simp) _).trans (hb1.mono (by simp; omega))
      go_wp2_with fail
      refine (printRight_yes B n c n' c' A A' ss ss' l k _ (by omega) (h1.below (hbw.mono hB)) (h2.below (hbw.mono hB)) Hh.out hc64 hs16).mono ?_
      rintro e w2 ⟨rfl, hb2⟩
      go_wp2
      go_ret2
      exact ⟨rfl, hbw.trans (hb2.mono (by omega))⟩
end Go.Proofs.YtkjiaklpffnhlaaDoor
