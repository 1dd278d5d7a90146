/-
  Texts of this proof, put together: St6.
-/
import Derived.Test.YtcjmpkfcjcoobaaGreatX30
import Derived.Test.YtcjmpkfcjcoobaaGreatX31
import Derived.Sort.KeysCollected
import Derived.Sort.Walk0
namespace Go.Proofs.YtcjmpkfcjcoobaaGreat
open Go.RowKit Go.Maps

theorem zeroWVal (w : World) : (zeroValue 115).run Tryz.prog w = .ok (.agg #[.string ⟨#[]⟩]) w := by kernel_rfl
theorem fieldWVal (s : ByteArray) (w : World) : (Instr.field 115 (.agg #[.string s]) 0).run Tryz.prog w = .ok (.string s) w := by kernel_rfl
/-- A key's value, and whether it is there. -/
theorem MapP.look {w : World} {m n : Nat} {ps : List PairP} (h : MapP w m n ps) (k : KeyP) (kt : ByteArray) (hk : textQ k = kt) (hks : kt.size ≤ 1000000) :
    (Instr.lookup 87 (.map (some m)) (.string kt) false).run Tryz.prog w = .ok (.agg #[.string (textQ ((findP ps k).getD []))]) w ∧
    (Instr.lookup 87 (.map (some m)) (.string kt) true).run Tryz.prog w = .ok (.tuple #[.agg #[.string (textQ ((findP ps k).getD []))], .bool (findP ps k).isSome]) w := by
  obtain ⟨D, ⟨es, clock, hb, F, _, rfl⟩, ht⟩ := h.data
  have hkey := key_of kt hks
  rw [← hk] at hkey ⊢
  have hkey : keyOf Tryz.prog 9 (.string (textQ k)) = some (.string k) := hkey
  have hget : ∀ c : Bool, ((Instr.lookup 87 (.map (some m)) (.string (textQ k)) c).run Tryz.prog w = .ok (if c then .tuple #[.agg #[.string (textQ ((findP ps k).getD []))], .bool (findP ps k).isSome] else .agg #[.string (textQ ((findP ps k).getD []))]) w) := by
    intro c
    rcases Maps.fit_look c keyedStr Tryz.underlying87 (zeroWVal w) hb F hkey with ⟨hrun, _, hat⟩ | ⟨e0, y, _, _, hrun, hRv, hat, _⟩
    · have hno := Maps.has_false_of_atKey hat
      have hf : findP ps k = none := by
        cases hf : findP ps k with
        | none => rfl
        | some v =>
          have := ((ht k).2 v hf).1
          rw [hno] at this
          cases this
      rw [hf]
      exact hrun
    · have hyes := Maps.has_true_of_atKey hat
      cases hf : findP ps k with
      | none =>
        have := (ht k).1 hf
        rw [hyes] at this
        cases this
      | some v =>
        have hd := ((ht k).2 v hf).2 (.lit (.string []))
        rw [hat] at hd
        obtain ⟨s, h1, h2⟩ := valR_inv hRv
        rw [h2] at hd
        have hs : s.data.toList = v := Lit.string.inj (DataW.lit.inj hd)
        have hsv : s = textQ v := by rw [← hs]; rfl
        rw [hrun, h1, hsv]
        simp only [Option.getD_some, Option.isSome_some]
  exact ⟨hget false, hget true⟩
theorem MapP.len {w : World} {m n : Nat} {ps : List PairP} (h : MapP w m n ps) : ∃ z : Nat, z ≤ n ∧ ∀ ty, (Builtin.len_ #[87] ty #[.map (some m)]).run Tryz.prog w = .ok (.int .i64 (z : Int)) w := by
  obtain ⟨D, hown, ht⟩ := h.data
  exact ⟨_, hown.size_le, fun ty => hown.len Tryz.underlying87 ty⟩
theorem find_mem {ps : List PairP} {k : KeyP} : (∃ v, findP ps k = some v) ↔ k ∈ ps.map (·.1) := by
  unfold findP
  rw [List.mem_map]
  constructor
  · rintro ⟨v, h⟩
    obtain ⟨p, hp, _⟩ := Option.map_eq_some_iff.1 h
    exact ⟨p, List.mem_of_find?_eq_some hp, by simpa using List.find?_some hp⟩
  · rintro ⟨p, hp, rfl⟩
    cases hf : ps.find? (fun q => q.1 == p.1) with
    | none =>
      have := List.find?_eq_none.1 hf p hp
      simp at this
    | some q => exact ⟨q.2, rfl⟩
theorem sorted_keys {ps : List PairP} (h : SortedP ps) : (ps.map (·.1)).Pairwise (fun a b => leB a b = true) ∧ (ps.map (·.1)).Nodup := by
  constructor
  · refine List.pairwise_map.2 (h.imp fun {a b} hab => ?_)
    have := hab
    rw [show lessP a.1 b.1 = decide (a.1 < b.1) from bytesLess_eq a.1 b.1, decide_eq_true_eq] at this
    simp only [leB, decide_eq_true_eq]
    exact List.le_of_lt this
  · refine List.pairwise_map.2 (h.imp fun {a b} hab e => ?_)
    rw [e, less_irrefl] at hab
    cases hab
/-- A map's keys, sorted. -/
theorem MapP.keys {w : World} {m n : Nat} {ps : List PairP} (h : MapP w m n ps) (hn : n ≤ 1000000) :
    Calls Tryz.prog 78 #[.func (.func 109) #[] #[.pointer (some ⟨w.heap.size, 0, none⟩)]] (w.alloc (.cells #[.map (some m)] 87)) fun e w' => ∃ v, e = .returned v ∧ OwnT9 (w.heap.size + 1) w' v (ps.map (·.1)) ∧ Below w.heap.size w w' := by
  obtain ⟨D, hown, ht⟩ := h.data
  have hsz := hown.size_le
  have hc := (callsIn_wide (n := 5)).1 (Tryz.msorted8 m n D valR w hown (by unfold maxLen; omega) (by omega))
  refine hc.mono ?_
  rintro e w' ⟨v, ss, rfl, hperm, hrow, _, hb⟩
  obtain ⟨es, rfl, hkeys⟩ := hown.keysOf
  obtain ⟨hsorted, hnodup⟩ := sorted_keys h.sorted
  obtain ⟨es2, he2, hap⟩ := hown.tidy keyedStr
  cases he2
  have hp2 : (ps.map (·.1)).Perm (strKeys (.map es)) := by
    refine perm_strKeys hap (fun p hp => ?_) hnodup fun x => ?_
    · obtain ⟨v0, hv0⟩ := hkeys p hp
      obtain ⟨x, _, hx, _⟩ := Maps.keyOf_str Tryz.underlying9 hv0
      exact ⟨x, hx⟩
    · rw [← find_mem]
      constructor
      · rintro ⟨v0, hv0⟩
        exact ((ht x).2 v0 hv0).1
      · intro hx
        cases hf : findP ps x with
        | none =>
          have := (ht x).1 hf
          rw [hx] at this
          cases this
        | some v0 => exact ⟨v0, rfl⟩
  have hms : ss.mergeSort leB = ps.map (·.1) := by
    rw [mergeSort_of_perm (hperm.trans hp2.symm)]
    exact List.mergeSort_of_pairwise hsorted
  have hlen : ss.length = (ps.map (·.1)).length := (hperm.trans hp2.symm).length_eq
  refine ⟨v, rfl, ?_, ?_⟩
  · rw [show (ss.mergeSort fun x y => decide (x ≤ y)) = ps.map (·.1) from hms, hlen, World.size_alloc] at hrow
    exact hrow
  · exact ((Below.refl _ w).alloc (Nat.le_refl _) _).trans (hb.mono (by simp))
theorem find_at : ∀ {ps : List PairP}, SortedP ps → ∀ p ∈ ps, findP ps p.1 = some p.2
  | [], _, p, hp => by cases hp
  | q :: l, h, p, hp => by
    obtain ⟨h1, h2⟩ := sorted_cons.1 h
    rw [find_cons]
    rcases List.mem_cons.1 hp with rfl | hp
    · rw [if_pos rfl]
    · rw [if_neg fun e => ?_]
      · exact find_at h2 p hp
      · have := h1 p hp
        rw [e, less_irrefl] at this
        cases this
theorem slice_of {w : World} {B e k n : Nat} {v : Value} {xs : List Value} (h : w.ownsRow B e k v n xs) : ∃ ao cap, v = .slice ao n cap := by
  rcases h.2 with ⟨rfl, rfl⟩ | ⟨g, cap, cur, rfl, _⟩
  · exact ⟨_, _, rfl⟩
  · exact ⟨_, _, rfl⟩
/-- Changes, as the program has them. -/
abbrev OwnC9 (B : Nat) (w : World) (v : Value) (l : List Ch) : Prop := w.ownsRow B 25 3 v l.length (chsCells l)
theorem infoWCh : (Tryz.prog.info? 25).map (fun i => (i.zero, i.size, i.bytes)) = some (some (.agg #[.string ⟨#[]⟩, .string ⟨#[]⟩, .bool false]), 3, 40) := by kernel_rfl
theorem OwnC9.at {w : World} {B : Nat} {v : Value} {l : List Ch} (h : OwnC9 B w v l) : ChsAt w w.heap.size v l := by
  have h2 := h.2
  rcases h2 with ⟨rfl, e⟩ | ⟨g, cap, cur, rfl, hb, hg, h1, h3, _⟩
  · exact ⟨none, 0, by rw [e], by omega, by decide, fun i hi => by omega⟩
  · refine ⟨_, cap, rfl, h1, h3, fun i hi => ⟨g, 0, rfl, (Array.getElem?_eq_some_iff.1 hg).1, ?_⟩⟩
    obtain ⟨q1, q2, q3⟩ := chs_at l i hi
    have c1 := World.ownsRow.cells (g := g) h rfl _ _ q1
    have c2 := World.ownsRow.cells (g := g) h rfl _ _ q2
    have c3 := World.ownsRow.cells (g := g) h rfl _ _ q3
    rw [Addr.add_lit] at c1 c2 c3
    exact ⟨c1, c2, c3⟩
/-- A change is laid behind a row of changes. -/
theorem wpList_append_c {w : World} {ops : Array Oper} {rest : List Oper} {o : Oper} {a : Act} {Q : Exit → Act → World → Prop} (hgd : o.guard = none) (s x : Operand)
    (ho : o.op = .call { callee := .builtin .append, args := #[s, x], argTypes := #[22, 22] }) (B : Nat) (v : Value) (l : List Ch) (p : Ch) (hs : a.eval s = v) (hown : OwnC9 B w v l) (hB : B ≤ w.heap.size) (hl : l.length ≤ 100000000)
    (b c : Nat) (hx : a.eval x = .slice (some ⟨b, 0, none⟩) 1 c) (h0 : w.cell? ⟨b, 0, none⟩ = some (.string (textQ p.key))) (h1 : w.cell? ⟨b, 1, none⟩ = some (.string (textQ p.val))) (h2 : w.cell? ⟨b, 2, none⟩ = some (.bool p.gone))
    (h : ∀ v' w', OwnC9 B w' v' (l ++ [p]) → Turned (blkOf v) w w' → FreshF w v v' → wpList Tryz.prog ops Q rest (a.put o.dst v') w') : wpList Tryz.prog ops Q (o :: rest) a w := by
  obtain ⟨i0, hi, hz0, hz1, hz2⟩ := info_parts infoWCh
  refine wpList_append_own_at w hgd s x 22 ho B 25 i0 (.agg #[.string ⟨#[]⟩, .string ⟨#[]⟩, .bool false]) 3 40 Tryz.underlying22 hi hz0 hz1 hz2 rfl (by decide) v l.length (chsCells l) hs hown ⟨b, 0, none⟩ 1 c (chCells p) hx rfl (fun j u hj => ?_) (fun u hu => ?_) (by unfold maxLen; omega) (by omega) hB (fun v' w' q1 q2 _ q3 => ?_)
  · rw [Addr.add_lit, Nat.zero_add]
    match j, hj with
    | 0, hj => cases hj; exact h0
    | 1, hj => cases hj; exact h1
    | 2, hj => cases hj; exact h2
    | j + 3, hj => cases hj
  · simp only [chCells, List.mem_cons, List.not_mem_nil, or_false] at hu
    rcases hu with rfl | rfl | rfl <;> rfl
  · refine h v' w' ?_ (turned_grown q2) (fresh_at q3 (Nat.le_refl _))
    unfold OwnC9
    rw [chs_snoc, List.length_append]
    exact q1

set_option maxRecDepth 100000 in
set_option maxHeartbeats 4000000 in
theorem all_any (m n : Nat) (ps : List PairP) (w : World) (h : MapP w m n ps) (hn : n ≤ 1000000) (hps : ps.length ≤ 1000000) (hf : FitP ps) :
    Calls Tryz.prog 55 #[.map (some m)] w fun e w' => ∃ v, e = .returned v ∧ OwnC9 w.heap.size w' v (wholeP ps) ∧ Below w.heap.size w w' := by
  obtain ⟨i0, hi0, hz00, hz10, hz20⟩ := info_parts infoWCh
  obtain ⟨z, hz, hlen⟩ := h.len
  obtain ⟨w1, hmk, hown1, hgrow1⟩ := run_make_own (P := Tryz.prog) w w.heap.size 22 25 i0 (.agg #[.string ⟨#[]⟩, .string ⟨#[]⟩, .bool false]) 3 Tryz.underlying22 hi0 hz00 hz10 .i64 .i64 z (by rw [hz20]; omega) (by unfold maxLen; omega) (Nat.le_refl _)
  have hb1 : Below w.heap.size w w1 := (Below.refl _ w).grown hgrow1 (Nat.le_refl _) fun k hk => by cases hk
  have hg1 : w.heap.size < w1.heap.size := (hown1.lt _ rfl).2
  have hm1 := h.below hb1
  have hkeys := hm1.keys hn
  have hmk1 := (callsIn_wide (n := 5)).1 (Tryz.mkeys8 (some m) w1)
  have H := Lib.hid (And.intro h hf)
  have H1 := Lib.hid (And.intro hown1 (And.intro hb1 hm1))
  clear h hf hgrow1 hown1 hb1 hm1
  go_enter Tryz.func55, Tryz.ntmps55
  --@a
  go_wp2_with (first
    | (go_at_call 79; with_reducible refine hmk1.mono ?_; rintro e w2 ⟨rfl, rfl⟩)
    | (go_at_call 78; with_reducible refine hkeys.mono ?_; rintro e w3 ⟨v3, rfl, hown3, hb3⟩; obtain ⟨ao3, cap3, rfl⟩ := slice_of hown3))
  obtain ⟨hown1, hb1, hm1⟩ := H1.out
  have hlen3 : (ps.map (·.1)).length = ps.length := List.length_map ..
  rw [hlen3] at hown3
  have hz3 := hb3.size
  have hc1 : ∀ b, Value.ownBlock (.slice (some ⟨w.heap.size, 0, none⟩) 0 z) = some b → b < w1.heap.size := fun b e => (hown1.lt b e).2
  have hown1' : OwnC9 w.heap.size w3 (.slice (some ⟨w.heap.size, 0, none⟩) 0 z) (wholeP (ps.take 0)) := ownsRow_below4 hown1 hb3
  have hm3 := hm1.below hb3
  have hb13 := hb1.trans (hb3.mono hb1.size)
  have hkc : Hid (∀ i (hi : i < ps.length), ∃ g off, ao3 = some ⟨g, off, none⟩ ∧ w1.heap.size < g ∧ g < w3.heap.size ∧ w3.cell? ⟨g, off + i, none⟩ = some (.string (textQ ps[i].1))) := Lib.hid fun i hi => by
    obtain ⟨h1, h2⟩ := hown3
    rcases h2 with ⟨e, e2⟩ | ⟨g, cap, cur, e, hb, hg, q1, q3, q4, q5⟩
    · omega
    · injection e with e e2 e3
      refine ⟨g, 0, e, hb, (Array.getElem?_eq_some_iff.1 hg).1, ?_⟩
      have hat : ((ps.map (·.1)).map fun s => Value.string (textQ s))[i]? = some (.string (textQ ps[i].1)) := by
        rw [List.getElem?_map, List.getElem?_map, List.getElem?_eq_getElem hi]
        rfl
      rw [← q5, List.getElem?_take] at hat
      split at hat
      · rw [Array.getElem?_toList] at hat
        rw [Lib.cell_of_heap hg, Nat.zero_add]
        exact hat
      · cases hat
  have H3 := Lib.hid (And.intro hm3 hb13)
  clear hmk hkeys hmk1 hlen hown1 hb1 hm1 hlen3 H1 hown3 hb3 hc1
  go_wp2
  --@b
  obtain ⟨N, hN⟩ : ∃ N, ps.length = N := ⟨_, rfl⟩
  have HN := Lib.hid hN
  rw [hN] at hps ⊢
  clear hN
  go_loopw [3, 13] (fun v iv wr => ∃ i : Nat, i ≤ N ∧ iv = .int .i64 i ∧ OwnC9 w.heap.size wr v (wholeP (ps.take i)) ∧ Turned (fun b => b = w.heap.size) w3 wr ∧ (∀ b, v.ownBlock = some b → b = w.heap.size ∨ w3.heap.size ≤ b)) (fun _ iv _ => N - (intOf iv).toNat)
  case atStart => exact ⟨0, by omega, rfl, hown1', Turned.refl _ _, fun b e => .inl (by cases e; rfl)⟩
  case round =>
    obtain ⟨i, hi, rfl, hown, ht, hfr⟩ := hrel
    have hz := ht.size
    obtain ⟨hm3, hb13⟩ := H3.out
    have hbw : Below w.heap.size w wr := hb13.trans (ht.below (by omega) fun b e => by omega)
    by_cases hlt : i < N
    · obtain ⟨g, off, rfl, hg1', hg3, hk⟩ := hkc.out i (by rw [HN.out]; exact hlt)
      have hil : i < ps.length := by rw [HN.out]; exact hlt
      have htk : wholeP (ps.take (i + 1)) = wholeP (ps.take i) ++ [⟨ps[i].1, ps[i].2, false⟩] := by
        rw [List.take_succ_eq_append_getElem hil]
        unfold wholeP
        rw [List.map_append, List.map_cons, List.map_nil]
      have hfind := find_at H.out.1.sorted ps[i] (List.getElem_mem hil)
      have hfit := (H.out.2 ps[i] (List.getElem_mem hil)).1
      obtain ⟨p, hp⟩ : ∃ p, ps[i] = p := ⟨_, rfl⟩
      rw [hp] at hk htk hfind hfit
      obtain ⟨KT, hKT⟩ : ∃ KT, textQ p.1 = KT := ⟨_, rfl⟩
      obtain ⟨VT, hVT⟩ : ∃ VT, textQ p.2 = VT := ⟨_, rfl⟩
      have g3 : KT.size ≤ 65535 := by rw [← hKT]; exact hfit
      have hlook := ((H.out.1.below hbw).look p.1 KT hKT (by omega)).1
      rw [hfind, Option.getD_some, hVT] at hlook
      rw [hKT] at hk
      have hpk : wr.cell? ⟨g, off + i, none⟩ = some (.string KT) := (World.cell?_of_block (ht.block g hg3 (by omega))).trans hk
      have hll : (wholeP (ps.take i)).length ≤ 100000000 := by
        unfold wholeP
        rw [List.length_map, List.length_take]
        omega
      have happ := hown.alloc (.cells #[.string KT, .string VT, .bool false] 25)
      have hfld := fieldWVal VT wr
      have Htk := Lib.hid htk
      have HKV := Lib.hid (And.intro hKT (And.intro hVT (And.intro ht (And.intro hfr hbw))))
      clear hp hfind hfit htk hk hKT hVT hil ht hfr hm3 hb13 hown1' hbw hown
      go_wp2_with (at_builtin; refine wpList_append_c rfl _ _ rfl w.heap.size u3 (wholeP (ps.take i)) ⟨p.1, p.2, false⟩ rfl happ (by simp; omega) hll wr.heap.size 1 rfl ?n1 ?n2 ?n3 ?_)
      case n1 => rw [HKV.out.1]
      case n2 => rw [HKV.out.2.1]
      --@c
      intro v2 w2 hown2 ht2 hf2
      obtain ⟨hKT, hVT, ht, hfr, hbw⟩ := HKV.out
      have hal : Turned (fun _ => False) wr (wr.alloc (.cells #[.string KT, .string VT, .bool false] 25)) := Turned.of_below ((Below.refl _ wr).alloc (Nat.le_refl _) _) (Nat.le_refl _)
      have ht3 : Turned (fun b => b = w.heap.size) w3 w2 := (ht.trans hal fun _ h => h.elim).trans ht2 fun b e => hfr b e
      have hf3 : ∀ b, v2.ownBlock = some b → b = w.heap.size ∨ w3.heap.size ≤ b := fun b e => (hf2 b e).elim (hfr b) fun h => .inr (by simp at h; omega)
      rw [← Htk.out] at hown2
      clear hal ht hfr hbw hKT hVT hlook hpk happ ht2 hf2
      go_wp2
      go_roundw
      case rel => exact ⟨i + 1, by omega, by go_num, hown2, ht3, hf3⟩
      case measure => simp [intOf]; omega
    · obtain rfl : N = i := by omega
      rw [List.take_of_length_le (by rw [HN.out]; exact Nat.le_refl _)] at hown
      go_wp2
      --@d
      go_ret
      exact ⟨_, rfl, hown, hbw⟩
end Go.Proofs.YtcjmpkfcjcoobaaGreat
