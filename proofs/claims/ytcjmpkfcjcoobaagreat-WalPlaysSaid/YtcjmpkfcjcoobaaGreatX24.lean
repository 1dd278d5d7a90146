/-
  Texts of this proof, put together: R8A.
-/
import Derived.Test.YtcjmpkfcjcoobaaGreatX12
import Derived.Test.YtcjmpkfcjcoobaaGreatX02
import Derived.Test.YtcjmpkfcjcoobaaGreatX03
import Derived.Deep.RegionHeld3
import Derived.Deep.AppendLies
import Derived.LoopIn
import Derived.Deep.LoopGhost
namespace Go.Proofs.YtcjmpkfcjcoobaaGreat
open Go.RowKit

theorem infoPair : (Tryz.prog.info? 111).map (fun i => (i.zero, i.size, i.bytes)) = some (some (.agg #[.string ⟨#[]⟩, .string ⟨#[]⟩]), 2, 32) := by kernel_rfl
def pairCells (p : PairP) : List Value := [.string (textQ p.1), .string (textQ p.2)]
def pairsCells (l : List PairP) : List Value := l.flatMap pairCells
theorem pairs_snoc (l : List PairP) (p : PairP) : pairsCells (l ++ [p]) = pairsCells l ++ pairCells p := by simp [pairsCells]
theorem pairs_len (l : List PairP) : (pairsCells l).length = l.length * 2 := by
  induction l with
  | nil => rfl
  | cons p l ih =>
    show (pairCells p ++ pairsCells l).length = _
    rw [List.length_append, ih, List.length_cons]
    simp [pairCells]
    omega
theorem pairs_at : ∀ (l : List PairP) (i : Nat) (h : i < l.length), (pairsCells l)[i * 2]? = some (.string (textQ l[i].1)) ∧ (pairsCells l)[i * 2 + 1]? = some (.string (textQ l[i].2))
  | p :: l, 0, _ => ⟨rfl, rfl⟩
  | p :: l, i + 1, h => by
    have ih := pairs_at l i (by simp at h; omega)
    have e : pairsCells (p :: l) = .string (textQ p.1) :: .string (textQ p.2) :: pairsCells l := rfl
    rw [e, show (i + 1) * 2 = i * 2 + 1 + 1 by omega]
    exact ih
/-- Pairs, as a row of somebody's own. -/
abbrev PairsAt (w : World) (B : Nat) (v : Value) (l : List PairP) : Prop := w.ownsRow B 111 2 v l.length (pairsCells l)
theorem PairsAt.slice {w : World} {B : Nat} {v : Value} {l : List PairP} (h : PairsAt w B v l) : ∃ ao cap, v = .slice ao l.length cap ∧ l.length ≤ cap ∧ cap ≤ maxLen ∧
    ∀ i (hi : i < l.length), ∃ g, ao = some ⟨g, 0, none⟩ ∧ g < w.heap.size ∧ w.cell? ⟨g, i * 2, none⟩ = some (.string (textQ l[i].1)) ∧ w.cell? ⟨g, i * 2 + 1, none⟩ = some (.string (textQ l[i].2)) := by
  have h2 := h.2
  rcases h2 with ⟨rfl, e⟩ | ⟨g, cap, cur, rfl, hb, hg, h1, h3, _⟩
  · exact ⟨none, 0, by rw [e], by omega, by decide, fun i hi => by omega⟩
  · refine ⟨_, cap, rfl, h1, h3, fun i hi => ⟨g, rfl, (Array.getElem?_eq_some_iff.1 hg).1, ?_⟩⟩
    have hc := pairs_at l i hi
    have c1 := World.ownsRow.cells (g := g) h rfl _ _ hc.1
    have c2 := World.ownsRow.cells (g := g) h rfl _ _ hc.2
    rw [Addr.add_lit, Nat.zero_add] at c1 c2
    exact ⟨c1, c2⟩

set_option maxRecDepth 100000 in
set_option maxHeartbeats 2000000 in
/-- How many sectors a record of so much text takes. -/
theorem rsecs_any (n : Nat) (h : n ≤ 1000000000) (w : World) :
    Calls Tryz.prog 40 #[.int .i64 (n : Int)] w fun e w' => e = .returned (.int .i64 (secN n : Nat)) ∧ Below w.heap.size w w' := by
  have hs : (secN n : Int) = (14 + (n : Int) + 32 + 1 + 63) / 64 := by unfold secN; omega
  rw [hs]
  go_enter Tryz.func40, Tryz.ntmps40
  go_wp2
  go_ret
  exact ⟨rfl, Below.refl _ _⟩

theorem text_inj {a b : List UInt8} (h : textQ a = textQ b) : a = b := by
  have := congrArg (fun x : ByteArray => x.data.toList) h
  exact this
theorem text_list (a : List UInt8) : (textQ a).toList = a := Lib.toList_data _
theorem text_beq (a b : List UInt8) : ((textQ a).toList == (textQ b).toList) = (a == b) := by rw [text_list, text_list]
theorem text_less (a b : List UInt8) : Op.bytesLess (textQ a).toList (textQ b).toList = lessP a b := by rw [text_list, text_list]
/-- What is found of a key. -/
def foundV (o : Option (List UInt8)) : Value := .tuple #[.string (textQ (o.getD [])), .bool o.isSome]
set_option maxRecDepth 100000 in
set_option maxHeartbeats 2000000 in
theorem rfind_any (B : Nat) (v : Value) (l : List PairP) (k : KeyP) (w : World) (h : PairsAt w B v l) :
    Calls Tryz.prog 21 #[v, .string (textQ k)] w fun e w' => e = .returned (foundV (findP l k)) ∧ Below w.heap.size w w' := by
  obtain ⟨ao, cap, rfl, hc1, hc2, hat⟩ := h.slice
  clear h
  have Hat := Lib.hid hat
  clear hat
  have hle : l.length ≤ maxLen := Nat.le_trans hc1 hc2
  unfold maxLen at hle
  obtain ⟨n, hn⟩ : ∃ n, l.length = n := ⟨_, rfl⟩
  have Hn := Lib.hid hn
  rw [hn] at hle ⊢
  clear hn hc1 hc2
  go_enter Tryz.func21, Tryz.ntmps21
  go_wp2
  go_loopw [6] (fun iv wr => ∃ i : Nat, i ≤ n ∧ iv = .int .i64 i ∧ Hid (findP (l.drop i) k = findP l k) ∧ wr = w) (fun iv _ => n - (intOf iv).toNat)
  case atStart => exact ⟨0, by omega, rfl, Lib.hid rfl, rfl⟩
  case round =>
    obtain ⟨i, hi, rfl, hf, rfl⟩ := hrel
    by_cases hlt : i < n
    · obtain ⟨g, rfl, hg, hk, hv⟩ := Hat.out i (by rw [Hn.out]; exact hlt)
      have hil : i < l.length := by rw [Hn.out]; exact hlt
      have hd : l.drop i = l[i] :: l.drop (i + 1) := List.drop_eq_getElem_cons hil
      obtain ⟨p, hp⟩ : ∃ p, l[i] = p := ⟨_, rfl⟩
      rw [hp] at hk hv hd
      have hf2 := hf.out
      rw [hd, find_cons] at hf2
      have hbe := text_beq p.1 k
      clear hp hd hf hil
      by_cases he : p.1 = k
      · rw [if_pos he] at hf2
        rw [show (p.1 == k) = true by simp [he]] at hbe
        have Hf := Lib.hid hf2
        clear hf2 he
        go_wp2
        go_ret2
        exact ⟨by rw [← Hf.out]; rfl, Below.refl _ _⟩
      · rw [if_neg he] at hf2
        rw [show (p.1 == k) = false by simp [he]] at hbe
        have Hf := Lib.hid hf2
        clear hf2 he
        go_wp2
        go_roundw
        case rel => exact ⟨i + 1, by omega, by go_num, Hf, trivial⟩
        case measure => simp [intOf]; omega
    · obtain rfl : i = n := by omega
      have hf2 := hf.out
      rw [List.drop_of_length_le (by rw [Hn.out]; exact Nat.le_refl _)] at hf2
      have Hf := Lib.hid hf2
      clear hf2 hf
      go_wp2
      go_ret2
      exact ⟨by rw [← Hf.out]; rfl, Below.refl _ _⟩
end Go.Proofs.YtcjmpkfcjcoobaaGreat
