/-
  What lattice.Right comes to, for any two lists of strings, in any memory: told by a plain function on the lists. Conditions: the strings within the model's own bound on a string's length; the lists' lengths as the slices' (any).
-/
import Derived.Test.YtkjiaklpffnhlaaDoorStrs
import Derived.Test.YtkjiaklpffnhlaaDoorName
import Derived.Deep.LoopGhost
namespace Go.Proofs.YtkjiaklpffnhlaaDoor
open Go.RowKit Go.Maps

/-- A list of unlike names. -/
def goodB (l : List ByteArray) : Bool := decide l.Nodup && l.all fun s => nameB s.data.toList
/-- Is a lattice, of these levels and compartments? -/
def rightB (ls cs : List ByteArray) : Bool := decide (1 ≤ ls.length) && decide (ls.length ≤ 16) && decide (cs.length ≤ 64) && goodB (ls ++ cs)

def keyL (s : ByteArray) : Lit := .string s.data.toList
def setK (l : List ByteArray) : DataW Unit := setOf (.agg []) (l.map keyL)
theorem setK_nil : setK [] = .map [] := rfl
theorem setK_snoc (l : List ByteArray) (s : ByteArray) : setK (l ++ [s]) = (setK l).put (keyL s) (.agg []) := by
  unfold setK
  rw [List.map_append, List.map_singleton, setOf_snoc]
theorem keyL_inj {a b : ByteArray} (h : keyL a = keyL b) : a = b := by
  unfold keyL at h
  injection h with h
  obtain ⟨⟨a⟩⟩ := a
  obtain ⟨⟨b⟩⟩ := b
  simp at h
  rw [h]
theorem sameKey_keyL (a b : ByteArray) : (keyL a).sameKey (keyL b) = decide (a = b) := by
  by_cases e : a = b
  · subst e
    simp [keyL, Lit.sameKey]
  · rw [sameKey_ne fun h => e (keyL_inj h)]
    simp [e]
def inB (l : List ByteArray) (s : ByteArray) : Bool := l.any fun x => decide (x = s)
theorem inB_iff (l : List ByteArray) (s : ByteArray) : inB l s = true ↔ s ∈ l := by
  unfold inB
  simp only [List.any_eq_true, decide_eq_true_eq]
  constructor
  · rintro ⟨x, hx, rfl⟩; exact hx
  · intro h; exact ⟨s, h, rfl⟩
theorem has_setK (l : List ByteArray) (s : ByteArray) : Maps.has (setK l) (keyL s) = inB l s := by
  unfold setK inB
  rw [has_setOf _ _ _ (fun y hy => by obtain ⟨_, _, rfl⟩ := List.mem_map.1 hy; trivial), List.any_map]
  congr 1
  funext x
  exact sameKey_keyL x s

theorem goodB_nil : goodB [] = true := rfl
theorem goodB_snoc (l : List ByteArray) (s : ByteArray) : goodB (l ++ [s]) = (goodB l && !inB l s && nameB s.data.toList) := by
  unfold goodB
  rw [Bool.eq_iff_iff]
  simp only [List.nodup_append, List.all_append, Bool.and_eq_true, decide_eq_true_eq, List.all_cons, List.all_nil, Bool.not_eq_true', ← Bool.not_eq_true, inB_iff]
  constructor
  · rintro ⟨⟨h1, _, h2⟩, h3, h4, _⟩
    exact ⟨⟨⟨h1, h3⟩, fun hm => h2 s hm s (by simp) rfl⟩, h4⟩
  · rintro ⟨⟨⟨h1, h3⟩, h2⟩, h4⟩
    exact ⟨⟨h1, by simp, fun a ha b hb => by simp at hb; subst hb; rintro rfl; exact h2 ha⟩, h3, h4, trivial⟩
/-- What goes wrong early is wrong. -/
theorem goodB_take (l : List ByteArray) (k : Nat) (h : goodB (l.take k) = false) : goodB l = false := by
  cases hg : goodB l with
  | false => rfl
  | true =>
    unfold goodB at hg h
    simp only [Bool.and_eq_true, decide_eq_true_eq, List.all_eq_true] at hg
    rw [Bool.and_eq_false_iff] at h
    rcases h with h | h
    · simp at h
      exact absurd (hg.1.sublist (List.take_sublist k l)) h
    · rw [List.all_eq_false] at h
      obtain ⟨x, hx, hn⟩ := h
      exact absurd (hg.2 x (List.mem_of_mem_take hx)) hn
theorem take_snoc' (l : List ByteArray) (k : Nat) (h : k < l.length) : l.take (k + 1) = l.take k ++ [l.getD k ByteArray.empty] := by
  rw [List.take_succ_eq_append_getElem h]
  simp [List.getD, List.getElem?_eq_getElem h]

theorem lawStr : Keyed Tryd.prog 9 := string_keyed Tryd.underlying9
theorem zeroUnit (w : World) : (zeroValue 66).run Tryd.prog w = .ok (.agg #[]) w := by kernel_rfl

/-- A map's block is no block of cells. -/
theorem map_no_cell {H : Type} {w : World} {k : TypeId} {R : Value → Option (DataW H × List MemPlace)} {b n : Nat} {D : DataW H} (h : w.ownsMap Tryd.prog k R b n D) (o : Nat) : w.cell? ⟨b, o, none⟩ = none := by
  obtain ⟨es, clock, hb, _⟩ := h
  simp [World.cell?, hb]
theorem Strs.grown {w w' : World} {B n c : Nat} {A : Option Addr} {ss : List ByteArray} (h : Strs w B A n c ss) (hB : B ≤ w.heap.size) {row : Option Nat} (hg : w.grownBy w' row) (hr : ∀ g, row = some g → ∀ o, w.cell? ⟨g, o, none⟩ = none) : Strs w' B A n c ss := by
  refine ⟨h.1, ?_⟩
  rcases h.2 with h0 | ⟨ad, rfl, h0 | ⟨b, off, rfl, hb, hc⟩⟩
  · exact .inl h0
  · exact .inr ⟨ad, rfl, .inl h0⟩
  · refine .inr ⟨_, rfl, .inr ⟨b, off, rfl, hb, fun j hj => ?_⟩⟩
    rw [World.cell?_of_block (w := w) (hg.block b (by omega) (fun e => by have := hr b e.symm (off + j); rw [hc j hj] at this; cases this))]
    exact hc j hj

set_option maxHeartbeats 2000000 in
set_option maxRecDepth 100000 in
theorem right_any (B n c n' c' : Nat) (A A' : Option Addr) (ss ss' : List ByteArray) (w : World) (hB : B ≤ w.heap.size) (h1 : Strs w B A n c ss) (h2 : Strs w B A' n' c' ss') (hsz : ∀ s ∈ ss ++ ss', s.size ≤ maxLen) :
    Calls Tryd.prog 16 #[.agg #[.slice A n c, .slice A' n' c']] w fun e w' => e = .returned (.bool (rightB ss ss')) ∧ Below w.heap.size w w' := by
  have hl1 := h1.len
  have hl2 := h2.len
  by_cases b1 : n < 1
  · have hr : rightB ss ss' = false := by unfold rightB; simp [show ¬ 1 ≤ ss.length by omega]
    rw [hr]
    clear hr hl1 hl2
    go_enter Tryd.func16, Tryd.ntmps16
    go_wp2
    go_ret
    exact ⟨rfl, (Below.refl _ _).alloc (Nat.le_refl _) _⟩
  by_cases b2 : 16 < n
  · have hr : rightB ss ss' = false := by unfold rightB; simp [show ¬ ss.length ≤ 16 by omega]
    rw [hr]
    clear hr hl1 hl2
    go_enter Tryd.func16, Tryd.ntmps16
    go_wp2
    go_ret
    exact ⟨rfl, (Below.refl _ _).alloc (Nat.le_refl _) _⟩
  by_cases b3 : 64 < n'
  · have hr : rightB ss ss' = false := by unfold rightB; simp [show ¬ ss'.length ≤ 64 by omega]
    rw [hr]
    clear hr hl1 hl2
    go_enter Tryd.func16, Tryd.ntmps16
    go_wp2
    go_ret
    exact ⟨rfl, (Below.refl _ _).alloc (Nat.le_refl _) _⟩
  have hr : rightB ss ss' = goodB (ss ++ ss') := by unfold rightB; simp [show 1 ≤ ss.length by omega, show ss.length ≤ 16 by omega, show ss'.length ≤ 64 by omega]
  rw [hr]
  have Hl : Hid ((ss ++ ss').length = n + n') := Lib.hid (by simp [hl1, hl2])
  have Hsz := Lib.hid hsz
  clear hr hl1 hl2 hsz
  have hmm := @run_makeMap Tryd.prog
  go_enter Tryd.func16, Tryd.ntmps16
  go_wp2_with fail
  refine (concat_two (w.heap.size + 1 + 1) B n c n' c' A A' ss ss' _ ?g0 ?g1 ?g2 ?g3 ?g4 ?g5 (by omega) (by omega) (by omega)).mono ?_
  case g0 => go_simp
  case g1 => go_simp
  case g2 => simp
  case g3 => simp; omega
  case g4 => exact ((h1.alloc hB _).alloc (by simp; omega) _).alloc (by simp; omega) _
  case g5 => exact ((h2.alloc hB _).alloc (by simp; omega) _).alloc (by simp; omega) _
  rintro e w1 ⟨v1, rfl, hv1, hb1⟩
  generalize hL : ss ++ ss' = L at hv1 Hl Hsz ⊢
  have HL := Lib.hid hL
  clear hL h1 h2
  obtain ⟨A1, c1, rfl, hs1⟩ := Strs.of_own hv1
  have hm0 : (((w.alloc (.cells #[Value.slice A n c, Value.slice A' n' c'] 24)).alloc (.map #[] 0)).alloc (.cells #[Value.slice A n c, Value.slice A' n' c'] 22)).ownsMap Tryd.prog 9 (unitElem (H := Unit)) (w.heap.size + 1) 0 (.map []) := by
    have := World.ownsMap_made (w.alloc (.cells #[Value.slice A n c, Value.slice A' n' c'] 24)) Tryd.prog 9 (unitElem (H := Unit))
    simpa using this.alloc _
  have hm1 : w1.ownsMap Tryd.prog 9 (unitElem (H := Unit)) (w.heap.size + 1) 0 (setK (L.take 0)) := by
    obtain ⟨es, clock, hbk, hr⟩ := hm0
    exact ⟨es, clock, (hb1.block _ (by simp)).trans hbk, hr⟩
  have hbw : Below w.heap.size w w1 := ((((Below.refl _ _).alloc (Nat.le_refl _) _).alloc (by simp) _).alloc (by simp; omega) _).trans (hb1.mono (by simp; omega))
  have hN : w.heap.size + 1 < w1.heap.size := by have := hb1.size; simp at this; omega
  clear hm0 hb1 hv1 hmm
  go_wp2
  go_loopw [32] (fun i wr => ∃ k : Nat, k ≤ n + n' ∧ i = .int .i64 k ∧ wr.ownsMap Tryd.prog 9 (unitElem (H := Unit)) (w.heap.size + 1) k (setK (L.take k)) ∧ Strs wr wr.heap.size A1 (n + n') c1 L ∧ Below w.heap.size w wr ∧ w.heap.size + 1 < wr.heap.size ∧ goodB (L.take k) = true)
    (fun i _ => n + n' - (intOf i).toNat)
  case atStart => exact ⟨0, Nat.zero_le _, rfl, hm1, hs1, hbw, hN, rfl⟩
  case round =>
    obtain ⟨k, hk, rfl, hown, hst, hnx, hwr, hgd⟩ := hrel
    by_cases hlt : k < n + n'
    · obtain ⟨b, off, rfl, hb, hc⟩ := hst.at_ hlt
      have hcx := hc k hlt
      have hxs : (L.getD k ByteArray.empty).size ≤ maxLen := by
        have hkl : k < L.length := by rw [Hl.out]; exact hlt
        rw [List.getD, List.getElem?_eq_getElem hkl]
        exact Hsz.out _ (List.getElem_mem hkl)
      have htk := take_snoc' L k (by rw [Hl.out]; exact hlt)
      obtain ⟨x, hx⟩ : ∃ x, L.getD k ByteArray.empty = x := ⟨_, rfl⟩
      rw [hx] at hcx hxs htk
      have hkey : keyOf Tryd.prog 9 (.string x) = some (keyL x) := WideMaps.keyOf_string_mk Tryd.underlying9 hxs
      have hg1 : goodB (L.take (k + 1)) = (!inB (L.take k) x && nameB x.data.toList) := by rw [htk, goodB_snoc, hgd]; rfl
      have hset : setK (L.take (k + 1)) = (setK (L.take k)).put (keyL x) (.agg []) := by rw [htk, setK_snoc]
      have hhas := has_setK (L.take k) x
      have Hset := Lib.hid hset
      have Hst := Lib.hid hst
      have Hgd := Lib.hid hgd
      clear hset hst hgd hx hc htk
      by_cases i1 : inB (L.take k) x = true
      · rw [i1] at hhas hg1
        have hfin : goodB L = false := goodB_take L (k + 1) (by rw [hg1]; rfl)
        have Hfin := Lib.hid hfin
        clear hfin hg1 i1
        go_wp2_with (first
          | (at_lookup; refine wpList_lookup_own_unit _ rfl _ _ 64 rfl 9 66 lawStr Tryd.underlying64 (zeroUnit _) (w.heap.size + 1) k _ rfl hown _ _ rfl hkey ?_))
        go_ret
        exact ⟨by rw [HL.out, Hfin.out]; rfl, hnx.alloc hnx.size _⟩
      · have i2 : inB (L.take k) x = false := by simpa using i1
        rw [i2] at hhas hg1
        clear i1 i2
        by_cases hn2 : nameB x.data.toList = true
        · rw [hn2] at hg1
          have Hg1 := Lib.hid hg1
          clear hg1
          go_wp2_with (first
            | (at_lookup; refine wpList_lookup_own_unit _ rfl _ _ 64 rfl 9 66 lawStr Tryd.underlying64 (zeroUnit _) (w.heap.size + 1) k _ rfl hown _ _ rfl hkey ?_)
            | (go_at_call 44; refine (name_any x _ hxs).mono ?_; rintro e w' ⟨rfl, rfl⟩)
            | (at_mapUpdate; refine wpList_mapUpdate_own _ rfl _ _ _ 64 rfl 9 66 lawStr Tryd.underlying64 (unitElem (H := Unit)) (w.heap.size + 1) k _ rfl (hown.alloc _) (by unfold maxLen; omega) _ _ _ rfl rfl hkey _ [] unitElem_mk ?_; intro w2 hown2 hgrow2))
          have hs2 := hgrow2.size
          simp at hs2
          go_roundw
          case rel =>
            refine ⟨k + 1, by omega, by go_num, by rw [Hset.out]; exact hown2, ?_, ?_, by omega, Hg1.out⟩
            · exact ((Hst.out.alloc (Nat.le_refl _) (.cells #[] 66)).grown (by simp) hgrow2 (by intro g hg o; cases hg; exact map_no_cell (hown.alloc _) o)).more (by omega)
            · exact (hnx.alloc hnx.size _).grown hgrow2 (by simp; omega) (fun j hj => by cases hj; omega)
          case measure => simp [intOf]; omega
        · have hn3 : nameB x.data.toList = false := by simpa using hn2
          rw [hn3] at hg1
          have hfin : goodB L = false := goodB_take L (k + 1) (by rw [hg1]; rfl)
          have Hfin := Lib.hid hfin
          clear hfin hg1 hn2
          go_wp2_with (first
            | (at_lookup; refine wpList_lookup_own_unit _ rfl _ _ 64 rfl 9 66 lawStr Tryd.underlying64 (zeroUnit _) (w.heap.size + 1) k _ rfl hown _ _ rfl hkey ?_)
            | (go_at_call 44; refine (name_any x _ hxs).mono ?_; rintro e w' ⟨rfl, rfl⟩))
          go_ret
          exact ⟨by rw [HL.out, Hfin.out]; rfl, hnx.alloc hnx.size _⟩
    · have hfin : goodB L = true := by rwa [List.take_of_length_le (by rw [Hl.out]; omega)] at hgd
      have Hfin := Lib.hid hfin
      clear hfin hgd hst hown
      go_wp2
      go_ret
      exact ⟨by rw [HL.out, Hfin.out]; rfl, hnx⟩
end Go.Proofs.YtkjiaklpffnhlaaDoor
