/-
  Texts of this proof, put together: St5.
-/
import Derived.Test.YtgpdplffljidbaaGreatDoorZ18
import Derived.Test.YtgpdplffljidbaaGreatDoorZ01
import Derived.Maps.OwnSet
import Derived.Maps.Ext
import Derived.StringKeys
import Derived.Deep.RegionHeld3
namespace Go.Proofs.YtgpdplffljidbaaGreatDoor
open Go.RowKit Go.Maps

def valL : List Value → Option (DataW Unit × List MemPlace)
  | [.string s] => some (.lit (.string s.data.toList), [])
  | _ => none
def valR : Value → Option (DataW Unit × List MemPlace)
  | .agg cs => valL cs.toList
  | _ => none
theorem valR_of (s : ByteArray) : valR (.agg #[.string s]) = some (.lit (.string s.data.toList), []) := rfl
theorem valL_inv {l : List Value} {z : DataW Unit × List MemPlace} (h : valL l = some z) : ∃ s : ByteArray, l = [.string s] ∧ z = (.lit (.string s.data.toList), []) := by
  unfold valL at h
  split at h
  · exact ⟨_, rfl, (Option.some.inj h).symm⟩
  · cases h
theorem valR_inv {v : Value} {z : DataW Unit × List MemPlace} (h : valR v = some z) : ∃ s : ByteArray, v = .agg #[.string s] ∧ z = (.lit (.string s.data.toList), []) := by
  cases v with
  | agg cs =>
    obtain ⟨s, h1, h2⟩ := valL_inv (show valL cs.toList = some z from h)
    exact ⟨s, by rw [← Array.toArray_toList (xs := cs), h1], h2⟩
  | _ => cases h
def TellsD (D : DataW Unit) (ps : List PairP) : Prop := ∀ k : KeyP, (findP ps k = none → has D (.string k) = false) ∧ ∀ v, findP ps k = some v → has D (.string k) = true ∧ ∀ z, D.atKey (.string k) z = .lit (.string v)
theorem str_ne {a b : KeyP} (h : a ≠ b) : (Lit.string a) ≠ .string b := fun e => h (by cases e; rfl)
theorem keyLit {k : KeyP} : WideAt.IsKeyLit (.string k) := by simp [WideAt.IsKeyLit]
theorem tells_put {D : DataW Unit} {ps : List PairP} (hD : IsMap D) (h : TellsD D ps) (hs : SortedP ps) (c : Ch) (hg : c.gone = false) : TellsD (D.put (.string c.key) (.lit (.string c.val))) (doneP c (!c.gone) ps) := by
  intro k
  rw [find_done c hs k]
  by_cases hk : k = c.key
  · subst hk
    rw [if_pos rfl, hg]
    simp only [Bool.false_eq_true, if_false]
    refine ⟨fun e => (by cases e), fun v e => ?_⟩
    cases e
    exact ⟨has_put_same hD keyLit _, fun z => atKey_put_same hD keyLit _ _⟩
  · rw [if_neg hk]
    refine ⟨fun e => ?_, fun v e => ?_⟩
    · rw [has_put_other (str_ne hk)]
      exact (h k).1 e
    · rw [has_put_other (str_ne hk)]
      refine ⟨((h k).2 v e).1, fun z => ?_⟩
      rw [atKey_put_other (str_ne hk)]
      exact ((h k).2 v e).2 z
theorem tells_del {D : DataW Unit} {ps : List PairP} (h : TellsD D ps) (hs : SortedP ps) (c : Ch) (hg : c.gone = true) : TellsD (D.del (.string c.key)) (doneP c (!c.gone) ps) := by
  intro k
  rw [find_done c hs k]
  by_cases hk : k = c.key
  · subst hk
    rw [if_pos rfl, hg]
    exact ⟨fun _ => has_del_same, fun v e => (by cases e)⟩
  · rw [if_neg hk]
    refine ⟨fun e => ?_, fun v e => ?_⟩
    · rw [has_del_other (str_ne hk)]
      exact (h k).1 e
    · rw [has_del_other (str_ne hk)]
      refine ⟨((h k).2 v e).1, fun z => ?_⟩
      rw [atKey_del_other (str_ne hk)]
      exact ((h k).2 v e).2 z
theorem keyedStr : Keyed Tryz.prog 9 := string_keyed Tryz.underlying9
structure MapP (w : World) (m n : Nat) (ps : List PairP) : Prop where
  sorted : SortedP ps
  data : ∃ D : DataW Unit, w.ownsMap Tryz.prog 9 valR m n D ∧ TellsD D ps
theorem MapP.block {w : World} {m n : Nat} {ps : List PairP} (h : MapP w m n ps) : ∃ es clock, w.heap[m]? = some (.map es clock) := by
  obtain ⟨D, ⟨es, clock, hb, _⟩, _⟩ := h.data
  exact ⟨es, clock, hb⟩
theorem MapP.same {w w' : World} {m n : Nat} {ps : List PairP} (h : MapP w m n ps) (hb : w'.heap[m]? = w.heap[m]?) : MapP w' m n ps := by
  obtain ⟨D, ⟨es, clock, hb0, r⟩, ht⟩ := h.data
  exact ⟨h.sorted, D, ⟨es, clock, hb.trans hb0, r⟩, ht⟩
theorem MapP.lt {w : World} {m n : Nat} {ps : List PairP} (h : MapP w m n ps) : m < w.heap.size := by
  obtain ⟨es, clock, hb⟩ := h.block
  exact (Array.getElem?_eq_some_iff.1 hb).1
theorem MapP.keep {S : Nat → Prop} {w w' : World} {m n : Nat} {ps : List PairP} (h : MapP w m n ps) (t : Turned S w w') (hs : ¬ S m) : MapP w' m n ps := h.same (t.block m h.lt hs)
theorem MapP.more {w : World} {m n n' : Nat} {ps : List PairP} (h : MapP w m n ps) (hn : n ≤ n') : MapP w m n' ps := by
  obtain ⟨D, ⟨es, clock, hb, hf, hs, hD⟩, ht⟩ := h.data
  exact ⟨h.sorted, D, ⟨es, clock, hb, hf, Nat.le_trans hs hn, hD⟩, ht⟩
theorem MapP.ne_cell {w : World} {m n : Nat} {ps : List PairP} (h : MapP w m n ps) {g j : Nat} {v : Value} (hc : w.cell? ⟨g, j, none⟩ = some v) : g ≠ m := by
  rintro rfl
  obtain ⟨es, clock, hb⟩ := h.block
  simp [World.cell?, hb] at hc
theorem key_of (s : ByteArray) (h : s.size ≤ 1000000) : keyOf Tryz.prog 9 (.string s) = some (.string s.data.toList) := WideMaps.keyOf_string_mk Tryz.underlying9 (by unfold maxLen; omega)
theorem turned_map {w w' : World} {m : Nat} {S : Nat → Prop} (h : w.mapTurned w' m) (hS : S m) : Turned S w w' := Turned.of_grown h.grown fun k e => .inl (by cases e; exact hS)
theorem MapP.put {w : World} {m n : Nat} {ps : List PairP} (h : MapP w m n ps) (hn : n ≤ 1000000000) (c : Ch) (hg : c.gone = false) (kt vt : ByteArray) (hk : textQ c.key = kt) (hv : textQ c.val = vt) (hks : kt.size ≤ 1000000) :
    ∃ w', (Instr.mapUpdate 93 (.map (some m)) (.string kt) (.agg #[.string vt])).run Tryz.prog w = .ok () w' ∧ MapP w' m (n + 1) (doneP c (!c.gone) ps) ∧ Turned (fun b => b = m) w w' := by
  obtain ⟨D, hown, ht⟩ := h.data
  obtain ⟨w', hrun, r1, r2⟩ := hown.store keyedStr Tryz.underlying93 (by unfold maxLen; omega) (key_of kt hks) (valR_of vt)
  refine ⟨w', hrun, ⟨by rw [hg]; exact done_sorted c _ ps h.sorted, _, r1, ?_⟩, turned_map r2 rfl⟩
  rw [← hk, ← hv]
  exact tells_put hown.isMap ht h.sorted c hg
theorem MapP.below {w w' : World} {m n : Nat} {ps : List PairP} (h : MapP w m n ps) (hb : Below w.heap.size w w') : MapP w' m n ps := h.same (hb.block m h.lt)
theorem MapP.drop {w : World} {m n : Nat} {ps : List PairP} (h : MapP w m n ps) (c : Ch) (hg : c.gone = true) (kt : ByteArray) (hk : textQ c.key = kt) (hks : kt.size ≤ 1000000) (ty : TypeId) :
    ∃ w', (Builtin.delete_ #[93, 9] ty #[.map (some m), .string kt]).run Tryz.prog w = .ok (.tuple #[]) w' ∧ MapP w' m n (doneP c (!c.gone) ps) ∧ Turned (fun b => b = m) w w' := by
  obtain ⟨D, hown, ht⟩ := h.data
  obtain ⟨w', hrun, r1, r2⟩ := hown.drop keyedStr Tryz.underlying93 (key_of kt hks) ty
  refine ⟨w', hrun, ⟨by rw [hg]; exact done_sorted c _ ps h.sorted, _, r1, ?_⟩, turned_map r2 rfl⟩
  rw [← hk]
  exact tells_del ht h.sorted c hg
theorem sclone_any (s : ByteArray) (w : World) (h : s.size ≤ 1000000) : Calls Tryz.prog 77 #[.string s] w fun e w' => e = .returned (.string s) ∧ Below w.heap.size w w' := by
  have hc := fun w => Tryz.stringslite_Clone s w (by omega)
  go_enter Tryz.func77, Tryz.ntmps77
  go_wp2_with (go_at_call 101; refine (hc _).mono ?_; rintro e w2 ⟨rfl, hb2⟩)
  go_ret
  exact ⟨rfl, hb2⟩

set_option maxRecDepth 100000 in
set_option maxHeartbeats 4000000 in
theorem change_any (B m n : Nat) (ps : List PairP) (v : Value) (l : List Ch) (w : World) (hm : MapP w m n ps) (h : ChsAt w B v l) (hB : B ≤ w.heap.size) (hl : l.length ≤ 100000) (hn : n ≤ 100000000) (hf : ∀ c ∈ l, c.fits) :
    Calls Tryz.prog 48 #[.map (some m), v] w fun e w' => e = .returned (.tuple #[]) ∧ MapP w' m (n + l.length) (behindP ps l) ∧ Turned (fun b => b = m) w w' := by
  obtain ⟨ao, cap, rfl, hc1, hc2, hat⟩ := h
  have Hat := Lib.hid hat
  have Hf := Lib.hid hf
  have Hm := Lib.hid hm
  clear hat hf hm
  obtain ⟨n0, hn0⟩ : ∃ n0, l.length = n0 := ⟨_, rfl⟩
  have Hn := Lib.hid hn0
  rw [hn0] at hl hc1 ⊢
  clear hn0 hc2
  go_enter Tryz.func48, Tryz.ntmps48
  go_wp2
  go_loopw [8] (fun iv wr => ∃ i : Nat, i ≤ n0 ∧ iv = .int .i64 i ∧ Hid (MapP wr m (n + i) (behindP ps (l.take i))) ∧ Turned (fun b => b = m) w wr) (fun iv _ => n0 - (intOf iv).toNat)
  case atStart => exact ⟨0, by omega, rfl, Lib.hid Hm.out, Turned.refl _ _⟩
  case round =>
    obtain ⟨i, hi, rfl, hmr, hbr⟩ := hrel
    have hbz := hbr.size
    by_cases hlt : i < n0
    · obtain ⟨g, off, rfl, hg, hk, hv, hgo⟩ := Hat.out i (by rw [Hn.out]; exact hlt)
      have hil : i < l.length := by rw [Hn.out]; exact hlt
      have htk : l.take (i + 1) = l.take i ++ [l[i]] := by rw [List.take_succ_eq_append_getElem hil]
      have hfit := Hf.out l[i] (List.getElem_mem hil)
      have hgm := Hm.out.ne_cell hk
      obtain ⟨c, hc⟩ : ∃ c, l[i] = c := ⟨_, rfl⟩
      rw [hc] at hk hv hgo htk hfit
      obtain ⟨KT, hKT⟩ : ∃ KT, textQ c.key = KT := ⟨_, rfl⟩
      obtain ⟨VT, hVT⟩ : ∃ VT, textQ c.val = VT := ⟨_, rfl⟩
      have g3 : KT.size ≤ 65535 := by rw [← hKT]; exact hfit.1
      have g4 : VT.size ≤ 65535 := by rw [← hVT]; exact hfit.2
      rw [hKT] at hk
      rw [hVT] at hv
      have hblk := hbr.block g (by omega) hgm
      have hpk : wr.cell? ⟨g, off + i * 3, none⟩ = some (.string KT) := (World.cell?_of_block hblk).trans hk
      have hpv : wr.cell? ⟨g, off + i * 3 + 1, none⟩ = some (.string VT) := (World.cell?_of_block hblk).trans hv
      have hpg : wr.cell? ⟨g, off + i * 3 + 2, none⟩ = some (.bool c.gone) := (World.cell?_of_block hblk).trans hgo
      have hnx : behindP ps (l.take (i + 1)) = doneP c (!c.gone) (behindP ps (l.take i)) := by
        rw [htk, behind_append, behind_cons, behind_nil]
      obtain ⟨qs, hqs⟩ : ∃ qs, behindP ps (l.take i) = qs := ⟨_, rfl⟩
      rw [hqs] at hmr hnx
      have hml := hmr.out.lt
      obtain ⟨gn, hgn⟩ : ∃ gn, c.gone = gn := ⟨_, rfl⟩
      rw [hgn] at hpg
      have hal : Turned (fun _ => False) wr (wr.alloc (.cells #[.string KT, .string VT, .bool gn] 50)) := Turned.of_below ((Below.refl _ wr).alloc (Nat.le_refl _) _) (Nat.le_refl _)
      have hma := Lib.hid (hmr.out.keep hal id)
      have Hpr := Lib.hid (And.intro hnx (And.intro hgn (And.intro hKT (And.intro hVT (And.intro hal (And.intro hbr hmr.out))))))
      clear hc hil hKT hVT hgn hnx htk hfit hk hv hgo hqs hblk hgm hal hbr hmr
      cases gn with
      | true =>
        obtain ⟨w2, hdel, hm2, ht2⟩ := hma.out.drop c Hpr.out.2.1 KT Hpr.out.2.2.1 (by omega) 0
        have Hm2 := Lib.hid (And.intro hm2 ht2)
        clear hm2 ht2
        go_wp2
        --@a
        obtain ⟨hnx, hgn, hKT, hVT, hal, hbr, hmr⟩ := Hpr.out
        obtain ⟨hm2, ht2⟩ := Hm2.out
        go_roundw
        case rel => exact ⟨i + 1, by omega, by go_num, Lib.hid (by rw [hnx]; exact MapP.more hm2 (by omega)), (hbr.trans hal fun _ h => h.elim).trans ht2 fun _ h => .inl h⟩
        case measure => simp [intOf]; omega
      | false =>
        go_wp2_with fail
        have hbx0 : Held9 (wr.alloc (.cells #[.string KT, .string VT, .bool false] 50)) wr.heap.size #[.string KT, .string VT, .bool false] 50 := heap_alloc_new _ _
        have hz0 : wr.heap.size + 1 = (wr.alloc (.cells #[.string KT, .string VT, .bool false] 50)).heap.size := by simp
        obtain ⟨W0, hW0⟩ : ∃ W0, wr.alloc (.cells #[.string KT, .string VT, .bool false] 50) = W0 := ⟨_, rfl⟩
        rw [hW0] at hbx0 hz0 hma Hpr ⊢
        have hm0 := hma.out.lt
        have hSt : Hid (∀ W W' : World, (W.cell? ⟨wr.heap.size, 0, none⟩ = some (.string KT) ∧ W.cell? ⟨wr.heap.size, 1, none⟩ = some (.string VT) ∧ Turned (fun b => b = m) W0 W) → Turned (fun b => b = m) W W' → (fun W => W.cell? ⟨wr.heap.size, 0, none⟩ = some (.string KT) ∧ W.cell? ⟨wr.heap.size, 1, none⟩ = some (.string VT) ∧ Turned (fun b => b = m) W0 W) W') := Lib.hid fun W W' hS hb => by
          have h1 : Turned (fun b => b = m) W0 W' := hS.2.2.trans hb fun _ h => .inl h
          have hne : wr.heap.size ≠ m := by omega
          have hcell : ∀ j, W'.cell? ⟨wr.heap.size, j, none⟩ = W0.cell? ⟨wr.heap.size, j, none⟩ := fun j => World.cell?_of_block (h1.block wr.heap.size (by omega) hne)
          exact ⟨(hcell 0).trans (hbx0.cell 0), (hcell 1).trans (hbx0.cell 1), h1⟩
        have hC : Hid (∀ s : ByteArray, s.size ≤ 1000000 → ∀ W : World, (W.cell? ⟨wr.heap.size, 0, none⟩ = some (.string KT) ∧ W.cell? ⟨wr.heap.size, 1, none⟩ = some (.string VT) ∧ Turned (fun b => b = m) W0 W) → Calls Tryz.prog 77 #[.string s] W fun e W' => e = .returned (.string s) ∧ (fun W => W.cell? ⟨wr.heap.size, 0, none⟩ = some (.string KT) ∧ W.cell? ⟨wr.heap.size, 1, none⟩ = some (.string VT) ∧ Turned (fun b => b = m) W0 W) W' ∧ Below W.heap.size W W') := Lib.hid fun s hs W hS => by
          refine (sclone_any s W hs).mono ?_
          rintro e W' ⟨he, hb⟩
          exact ⟨he, hSt.out W W' hS (Turned.of_below hb (Nat.le_refl _)), hb⟩
        have hS0 : W0.cell? ⟨wr.heap.size, 0, none⟩ = some (.string KT) ∧ W0.cell? ⟨wr.heap.size, 1, none⟩ = some (.string VT) ∧ Turned (fun b => b = m) W0 W0 := ⟨hbx0.cell 0, hbx0.cell 1, Turned.refl _ _⟩
        have HS0 := Lib.hid (hSt.out W0 W0.drew hS0 Turned.drew)
        have Hmd := Lib.hid (hma.out.keep (S := fun _ => False) (Turned.drew (w := W0)) id)
        clear hW0 hbx0 hpk hpv hpg hS0
        --@b0
        go_region_held3 (fun W => W.cell? ⟨wr.heap.size, 0, none⟩ = some (.string KT) ∧ W.cell? ⟨wr.heap.size, 1, none⟩ = some (.string VT) ∧ Turned (fun b => b = m) W0 W)
          (first | exact HS0.out | assumption | exact hSt.out _ _ (by assumption) Turned.drew | (trace_state; fail))
          (first
            | (go_at_call_of 77 (Value.string KT); refine (hC.out KT (by omega) _ ?_).mono ?_; assumption; rintro e w5 ⟨rfl, hS5, hB5⟩; have Hm5 := Lib.hid (Hmd.out.below hB5); clear hB5)
            | (go_at_call_of 77 (Value.string VT); refine (hC.out VT (by omega) _ ?_).mono ?_; assumption; rintro e w6 ⟨rfl, hS6, hB6⟩; obtain ⟨w7, hup, hm7, ht7⟩ := (Hm5.out.below hB6).put (by omega) c Hpr.out.2.1 KT VT Hpr.out.2.2.1 Hpr.out.2.2.2.1 (by omega); have hS7 := hSt.out w6 w7 hS6 ht7; have Hm7 := Lib.hid hm7; clear hB6 ht7 hm7))
        rename_i hHeld
        clear hHeld
        go_wp2
        --@b
        obtain ⟨hnx, hgn, hKT, hVT, hal, hbr, hmr⟩ := Hpr.out
        go_roundw
        case rel => exact ⟨i + 1, by omega, by go_num, Lib.hid (by rw [hnx]; exact Hm7.out), (hbr.trans hal fun _ h => h.elim).trans hS7.2.2 fun _ h => .inl h⟩
        case measure => simp [intOf]; omega
    · obtain rfl : n0 = i := by omega
      rw [List.take_of_length_le (by rw [Hn.out]; exact Nat.le_refl _)] at hmr
      go_wp2
      --@c
      go_end0
      exact ⟨rfl, hmr.out, hbr⟩
end Go.Proofs.YtgpdplffljidbaaGreatDoor
