/-
  Texts of this proof, put together: R8P, R8K.
-/
import Derived.Test.YtcjmpkfcjcoobaaGreatX25
namespace Go.Proofs.YtcjmpkfcjcoobaaGreat
open Go.RowKit

set_option maxRecDepth 100000 in
set_option maxHeartbeats 2000000 in
theorem rtwo_any (n : Nat) (h : n ≤ 65535) (w : World) :
    Calls Tryz.prog 32 #[.int .i64 (n : Int)] w fun e w' => e = .returned (.string (textQ (two8 n))) ∧ Below w.heap.size w w' := by
  have e1 : ((UInt8.ofNat (n / 256)).toNat : Int) = (n : Int) / 256 := by
    rw [UInt8.toNat_ofNat']
    omega
  have e2 : ((UInt8.ofNat n).toNat : Int) = (n : Int) % 256 := by
    rw [UInt8.toNat_ofNat']
    omega
  have hrow : (w.alloc (.cells #[.int .u8 ((n : Int) / 256), .int .u8 ((n : Int) % 256)] 5)).ownsRow w.heap.size 5 1 (.slice (some ⟨w.heap.size, 0, none⟩) 2 2) 2 (Lib.byteCells (two8 n)) := by
    refine ⟨rfl, .inr ⟨w.heap.size, 2, #[.int .u8 ((n : Int) / 256), .int .u8 ((n : Int) % 256)], rfl, Nat.le_refl _, heap_alloc_new w _, Nat.le_refl _, by decide, rfl, ?_⟩⟩
    show [Value.int .u8 ((n : Int) / 256), .int .u8 ((n : Int) % 256)] = [Value.int .u8 ((UInt8.ofNat (n / 256)).toNat : Int), .int .u8 ((UInt8.ofNat n).toNat : Int)]
    rw [e1, e2]
  have hcv : (convert 72 9 (.slice (some ⟨w.heap.size, 0, none⟩) 2 2)).run Tryz.prog (w.alloc (.cells #[.int .u8 ((n : Int) / 256), .int .u8 ((n : Int) % 256)] 5)) = .ok (.string (textQ (two8 n))) (w.alloc (.cells #[.int .u8 ((n : Int) / 256), .int .u8 ((n : Int) % 256)] 5)) := conv_own4 hrow
  have hb : Below w.heap.size w (w.alloc (.cells #[.int .u8 ((n : Int) / 256), .int .u8 ((n : Int) % 256)] 5)) := (Below.refl _ w).alloc (Nat.le_refl _) _
  clear e1 e2 hrow
  have Hb := Lib.hid hb
  clear hb
  go_enter Tryz.func32, Tryz.ntmps32
  go_wp2
  go_ret
  exact ⟨rfl, Hb.out⟩

def chCells (c : Ch) : List Value := [.string (textQ c.key), .string (textQ c.val), .bool c.gone]
def chsCells (l : List Ch) : List Value := l.flatMap chCells
theorem chs_snoc (l : List Ch) (c : Ch) : chsCells (l ++ [c]) = chsCells l ++ chCells c := by simp [chsCells]
theorem chs_at : ∀ (l : List Ch) (i : Nat) (h : i < l.length), (chsCells l)[i * 3]? = some (.string (textQ l[i].key)) ∧ (chsCells l)[i * 3 + 1]? = some (.string (textQ l[i].val)) ∧ (chsCells l)[i * 3 + 2]? = some (.bool l[i].gone)
  | p :: l, 0, _ => ⟨rfl, rfl, rfl⟩
  | p :: l, i + 1, h => by
    have ih := chs_at l i (by simp at h; omega)
    have e : chsCells (p :: l) = .string (textQ p.key) :: .string (textQ p.val) :: .bool p.gone :: chsCells l := rfl
    rw [e, show (i + 1) * 3 = i * 3 + 1 + 1 + 1 by omega]
    exact ih
/-- Changes that lie in memory, wherever. -/
def ChsAt (w : World) (B : Nat) (v : Value) (l : List Ch) : Prop :=
  ∃ ao cap, v = .slice ao l.length cap ∧ l.length ≤ cap ∧ cap ≤ maxLen ∧ ∀ i (hi : i < l.length), ∃ g off, ao = some ⟨g, off, none⟩ ∧ g < B ∧
    w.cell? ⟨g, off + i * 3, none⟩ = some (.string (textQ l[i].key)) ∧ w.cell? ⟨g, off + i * 3 + 1, none⟩ = some (.string (textQ l[i].val)) ∧ w.cell? ⟨g, off + i * 3 + 2, none⟩ = some (.bool l[i].gone)
theorem ChsAt.below {w w' : World} {B B' : Nat} {v : Value} {l : List Ch} (h : ChsAt w B v l) (hb : Below B' w w') (hB : B ≤ B') : ChsAt w' B v l := by
  obtain ⟨ao, cap, h1, h2, h3, h4⟩ := h
  refine ⟨ao, cap, h1, h2, h3, fun i hi => ?_⟩
  obtain ⟨g, off, q1, q2, q3, q4, q5⟩ := h4 i hi
  have hc : ∀ j, w'.cell? ⟨g, j, none⟩ = w.cell? ⟨g, j, none⟩ := fun j => hb.cell (p := ⟨g, j, none⟩) (by show g < B'; omega)
  exact ⟨g, off, q1, q2, (hc _).trans q3, (hc _).trans q4, (hc _).trans q5⟩
theorem infoRCh : (Tryz.prog.info? 37).map (fun i => (i.zero, i.size, i.bytes)) = some (some (.agg #[.string ⟨#[]⟩, .string ⟨#[]⟩, .bool false]), 3, 40) := by kernel_rfl
/-- Changes, as a row of somebody's own. -/
abbrev ChsOwn (w : World) (B : Nat) (v : Value) (l : List Ch) : Prop := w.ownsRow B 37 3 v l.length (chsCells l)
theorem ChsOwn.at {w : World} {B : Nat} {v : Value} {l : List Ch} (h : ChsOwn w B v l) : ChsAt w w.heap.size v l := by
  have h2 := h.2
  rcases h2 with ⟨rfl, e⟩ | ⟨g, cap, cur, rfl, hb, hg, h1, h3, _⟩
  · exact ⟨none, 0, by rw [e], by omega, by decide, fun i hi => by omega⟩
  · refine ⟨_, cap, rfl, h1, h3, fun i hi => ⟨g, 0, rfl, (Array.getElem?_eq_some_iff.1 hg).1, ?_⟩⟩
    obtain ⟨q1, q2, q3⟩ := chs_at l i hi
    have c1 := World.ownsRow.cells (g := g) h rfl _ _ q1
    have c2 := World.ownsRow.cells (g := g) h rfl _ _ q2
    have c3 := World.ownsRow.cells (g := g) h rfl _ _ q3
    rw [Addr.add_lit] at c1 c2 c3
    exact ⟨c1, c2, c3⟩
/-- A change is appended to a row of somebody's own. -/
theorem wpList_append_ch {w : World} {ops : Array Oper} {rest : List Oper} {o : Oper} {a : Act} {Q : Exit → Act → World → Prop} (hgd : o.guard = none) (s x : Operand)
    (ho : o.op = .call { callee := .builtin .append, args := #[s, x], argTypes := #[31, 31] }) (B : Nat) (v : Value) (l : List Ch) (p : Ch) (hs : a.eval s = v) (hown : ChsOwn w B v l) (hB : B ≤ w.heap.size) (hl : l.length ≤ 1000000)
    (b c : Nat) (hx : a.eval x = .slice (some ⟨b, 0, none⟩) 1 c) (h0 : w.cell? ⟨b, 0, none⟩ = some (.string (textQ p.key))) (h1 : w.cell? ⟨b, 1, none⟩ = some (.string (textQ p.val))) (h2 : w.cell? ⟨b, 2, none⟩ = some (.bool p.gone))
    (h : ∀ v' w', ChsOwn w' B v' (l ++ [p]) → w.grownBy w' v.ownBlock → wpList Tryz.prog ops Q rest (a.put o.dst v') w') : wpList Tryz.prog ops Q (o :: rest) a w := by
  obtain ⟨i0, hi, hz0, hz1, hz2⟩ := info_parts infoRCh
  refine wpList_append_own w hgd s x 31 ho B 37 i0 (.agg #[.string ⟨#[]⟩, .string ⟨#[]⟩, .bool false]) 3 40 Tryz.underlying31 hi hz0 hz1 hz2 rfl (by decide) v l.length (chsCells l) hs hown ⟨b, 0, none⟩ 1 c (chCells p) hx rfl (fun j u hj => ?_) (fun u hu => ?_) (by unfold maxLen; omega) (by omega) hB (fun v' w' q1 q2 _ => ?_)
  · rw [Addr.add_lit, Nat.zero_add]
    match j, hj with
    | 0, hj => cases hj; exact h0
    | 1, hj => cases hj; exact h1
    | 2, hj => cases hj; exact h2
    | j + 3, hj => cases hj
  · simp only [chCells, List.mem_cons, List.not_mem_nil, or_false] at hu
    rcases hu with rfl | rfl | rfl <;> rfl
  · refine h v' w' ?_ q2
    unfold ChsOwn
    rw [chs_snoc, List.length_append]
    exact q1

set_option maxRecDepth 100000 in
set_option maxHeartbeats 2000000 in
/-- Changes, as the document has them. -/
theorem of8_any (B : Nat) (v : Value) (l : List Ch) (w : World) (h : ChsAt w B v l) (hB : B ≤ w.heap.size) (hl : l.length ≤ 100000) :
    Calls Tryz.prog 10 #[v] w fun e w' => ∃ v', e = .returned v' ∧ ChsOwn w' w.heap.size v' l ∧ Below w.heap.size w w' := by
  obtain ⟨ao, cap, rfl, hc1, hc2, hat⟩ := h
  have Hat := Lib.hid hat
  clear hat
  obtain ⟨n, hn⟩ : ∃ n, l.length = n := ⟨_, rfl⟩
  have Hn := Lib.hid hn
  rw [hn] at hl hc1 ⊢
  clear hn hc2
  go_enter Tryz.func10, Tryz.ntmps10
  go_wp2
  go_loopw [3, 4] (fun o iv wr => ∃ i : Nat, i ≤ n ∧ iv = .int .i64 i ∧ ChsOwn wr w.heap.size o (l.take i) ∧ Below w.heap.size w wr) (fun _ iv _ => n - (intOf iv).toNat)
  case atStart => exact ⟨0, by omega, rfl, World.ownsRow_nil _ _ _ _, Below.refl _ _⟩
  case round =>
    obtain ⟨i, hi, rfl, hown, hbr⟩ := hrel
    have hbz := hbr.size
    by_cases hlt : i < n
    · obtain ⟨g, off, rfl, hg, hk, hv, hgo⟩ := Hat.out i (by rw [Hn.out]; exact hlt)
      have hil : i < l.length := by rw [Hn.out]; exact hlt
      have htk : l.take (i + 1) = l.take i ++ [l[i]] := by rw [List.take_succ_eq_append_getElem hil]
      have htl : (l.take i).length ≤ 100000 := by rw [List.length_take]; omega
      obtain ⟨c, hc⟩ : ∃ c, l[i] = c := ⟨_, rfl⟩
      rw [hc] at hk hv hgo htk
      have hpk : wr.cell? ⟨g, off + i * 3, none⟩ = some (.string (textQ c.key)) := (hbr.cell (p := ⟨g, off + i * 3, none⟩) (by show g < w.heap.size; omega)).trans hk
      have hpv : wr.cell? ⟨g, off + i * 3 + 1, none⟩ = some (.string (textQ c.val)) := (hbr.cell (p := ⟨g, off + i * 3 + 1, none⟩) (by show g < w.heap.size; omega)).trans hv
      have hpg : wr.cell? ⟨g, off + i * 3 + 2, none⟩ = some (.bool c.gone) := (hbr.cell (p := ⟨g, off + i * 3 + 2, none⟩) (by show g < w.heap.size; omega)).trans hgo
      have happ := hown.alloc (.cells #[.string (textQ c.key), .string (textQ c.val), .bool c.gone] 37)
      have Htk := Lib.hid htk
      clear hc hk hv hgo hil htk
      go_wp2_with (at_builtin; refine wpList_append_ch rfl _ _ rfl w.heap.size u3 (l.take i) c rfl happ (by simp; omega) (by omega) wr.heap.size 1 rfl ?n1 ?n2 ?n3 ?_)
      case n1 => go_simp
      case n2 => go_simp
      case n3 => go_simp
      intro v2 w2 hown2 hgrow
      have hb2 : Below w.heap.size w w2 := (hbr.alloc (by omega) _).grown hgrow (by simp; omega) fun k hk => (row_block happ hk).1
      clear happ hgrow hown hpk hpv hpg
      go_wp2
      go_roundw
      case rel => exact ⟨i + 1, by omega, by go_num, by rw [Htk.out]; exact hown2, hb2⟩
      case measure => simp [intOf]; omega
    · obtain rfl : i = n := by omega
      rw [List.take_of_length_le (by rw [Hn.out]; exact Nat.le_refl _)] at hown
      go_wp2
      go_ret
      exact ⟨_, rfl, hown, hbr⟩
end Go.Proofs.YtcjmpkfcjcoobaaGreat
namespace Go.Proofs.YtcjmpkfcjcoobaaGreat
open Go.RowKit

theorem infoStr8 : (Tryz.prog.info? 9).map (fun i => (i.zero, i.size, i.bytes)) = some (some (.string ⟨#[]⟩), 1, 16) := by kernel_rfl
theorem cut_list (s : ByteArray) (n : Nat) : (s.extract 0 n).toList = s.data.toList.take n := by
  rw [Lib.toList_data, Lib.extract_data]
  simp
/-- The document's store as a value. -/
def storeV (v : Value) (half used : Nat) : Value := .agg #[v, .int .i64 half, .int .i64 used]
def textsK (l : List KeyP) : List Value := l.map fun k => .string (textQ k)

set_option maxRecDepth 100000 in
set_option maxHeartbeats 4000000 in
theorem rkeys_any (B : Nat) (v : Value) (l : List PairP) (half used : Nat) (P : ByteArray) (w : World) (h : PairsAt w B v l) (hl : l.length ≤ 100000) (hks : ∀ p ∈ l, p.1.length ≤ 1000000) :
    Calls Tryz.prog 24 #[storeV v half used, .string P] w fun e w' => ∃ v', e = .returned v' ∧ w'.ownsRow w.heap.size 9 1 v' (keysP l P.data.toList).length (textsK (keysP l P.data.toList)) ∧ Below w.heap.size w w' := by
  obtain ⟨i0, hi0, hz00, hz10, hz20⟩ := info_parts infoStr8
  obtain ⟨ao, cap, rfl, hc1, hc2, hat⟩ := h.slice
  clear h
  have Hat := Lib.hid hat
  have Hks := Lib.hid hks
  clear hat hks
  obtain ⟨n, hn⟩ : ∃ n, l.length = n := ⟨_, rfl⟩
  have Hn := Lib.hid hn
  rw [hn] at hl ⊢
  clear hn hc1 hc2
  unfold storeV
  generalize (half : Int) = hf
  generalize (used : Int) = us
  go_enter Tryz.func24, Tryz.ntmps24
  go_wp2
  have hB0 : Below w.heap.size w (w.alloc (.cells #[.slice ao n cap, .int .i64 hf, .int .i64 us] 49)) := (Below.refl _ w).alloc (Nat.le_refl _) _
  have hc0 : (w.alloc (.cells #[.slice ao n cap, .int .i64 hf, .int .i64 us] 49)).heap[w.heap.size]? = some (.cells #[.slice ao n cap, .int .i64 hf, .int .i64 us] 49 (0, 0)) := heap_alloc_new w _
  have hz1 : (w.alloc (.cells #[.slice ao n cap, .int .i64 hf, .int .i64 us] 49)).heap.size = w.heap.size + 1 := by simp
  generalize w.alloc (.cells #[.slice ao n cap, .int .i64 hf, .int .i64 us] 49) = w1 at hB0 hc0 hz1 ⊢
  have hs0 : w1.cell? ⟨w.heap.size, 0, none⟩ = some (.slice ao n cap) := by rw [Lib.cell_of_heap hc0]; rfl
  clear hc0
  go_loopw [5, 6] (fun o iv wr => ∃ (i : Nat), i ≤ n ∧ iv = .int .i64 i ∧ wr.ownsRow (w.heap.size + 1) 9 1 o (keysP (l.take i) P.data.toList).length (textsK (keysP (l.take i) P.data.toList)) ∧ Below (w.heap.size + 1) w1 wr) (fun _ iv _ => n - (intOf iv).toNat)
  case atStart => exact ⟨0, by omega, rfl, World.ownsRow_nil _ _ _ _, Below.refl _ _⟩
  case round =>
    obtain ⟨i, hi, rfl, hown, hbr⟩ := hrel
    have hbw : Below w.heap.size w wr := hB0.trans (hbr.mono (by omega))
    have hbz := hbr.size
    have hs1 : wr.cell? ⟨w.heap.size, 0, none⟩ = some (.slice ao n cap) := (hbr.cell (p := ⟨w.heap.size, 0, none⟩) (by show w.heap.size < w.heap.size + 1; omega)).trans hs0
    by_cases hlt : i < n
    · obtain ⟨g, rfl, hg, hk, _⟩ := Hat.out i (by rw [Hn.out]; exact hlt)
      have hil : i < l.length := by rw [Hn.out]; exact hlt
      have htk : l.take (i + 1) = l.take i ++ [l[i]] := by rw [List.take_succ_eq_append_getElem hil]
      have hsz := Hks.out l[i] (List.getElem_mem hil)
      have hkl : (keysP (l.take i) P.data.toList).length ≤ 100000 := by
        unfold keysP
        refine Nat.le_trans (List.length_filter_le ..) ?_
        rw [List.length_map, List.length_take]
        omega
      obtain ⟨p, hp⟩ : ∃ p, l[i] = p := ⟨_, rfl⟩
      rw [hp] at hk htk hsz
      have hpk : wr.cell? ⟨g, i * 2, none⟩ = some (.string (textQ p.1)) := (hbw.cell (p := ⟨g, i * 2, none⟩) hg).trans hk
      have hkk : keysP (l.take (i + 1)) P.data.toList = keysP (l.take i) P.data.toList ++ (if (p.1.take P.data.toList.length == P.data.toList) = true then [p.1] else []) := by
        unfold keysP
        rw [htk, List.map_append, List.filter_append, List.map_cons, List.map_nil, List.filter_cons, List.filter_nil]
      clear hp hk htk hil
      obtain ⟨X, hX⟩ : ∃ X, textQ p.1 = X := ⟨_, rfl⟩
      have hXl : p.1 = X.data.toList := by rw [← hX]; rfl
      have hXs : X.size = p.1.length := by rw [hXl]; rfl
      rw [hXl] at hkk
      rw [← hXs] at hsz
      rw [hX] at hpk
      have hcut := cut_list X P.size
      have hpt : P.toList = P.data.toList := Lib.toList_data P
      have hpl : P.data.toList.length = P.size := rfl
      rw [hpl] at hkk
      clear hXl hXs
      by_cases hlen : P.size ≤ X.size
      · have hbe : ((X.extract 0 P.size).toList == P.toList) = (X.data.toList.take P.size == P.data.toList) := by rw [hcut, hpt]
        obtain ⟨bb, hbb⟩ : ∃ bb, (X.data.toList.take P.size == P.data.toList) = bb := ⟨_, rfl⟩
        rw [hbb] at hkk hbe
        have hlen2 : (P.size : Int) ≤ (X.size : Int) := by omega
        clear hbb hcut hpt hpl hX
        have Hkk := Lib.hid hkk
        clear hkk
        cases bb with
        | false =>
          go_wp2
          go_roundw
          case rel => exact ⟨i + 1, by omega, by go_num, by rw [Hkk.out, if_neg Bool.false_ne_true, List.append_nil]; exact hown, hbr⟩
          case measure => simp [intOf]; omega
        | true =>
          have happ := hown.alloc (.cells #[.string X] 9)
          have Hk2 : Hid (keysP (l.take (i + 1)) P.data.toList = keysP (l.take i) P.data.toList ++ [X.data.toList]) := Lib.hid (by rw [Hkk.out, if_pos rfl])
          clear Hkk
          obtain ⟨ks, hks⟩ : ∃ ks, keysP (l.take i) P.data.toList = ks := ⟨_, rfl⟩
          rw [hks] at happ hkl hown Hk2
          clear hks
          go_wp2_with (at_builtin; refine wpList_append_own _ rfl _ _ 58 rfl (w.heap.size + 1) 9 i0 (.string ⟨#[]⟩) 1 16 Tryz.underlying58 hi0 hz00 hz10 hz20 rfl (by decide) u5 ks.length (textsK ks) rfl happ ⟨wr.heap.size, 0, none⟩ 1 1 [.string X] rfl rfl ?n1 ?n2 ?n3 ?n4 ?n5 ?_)
          case n1 =>
            intro j u hj
            rw [Addr.add_lit]
            have hj0 : j = 0 := by
              rcases Nat.eq_zero_or_pos j with h | h
              · exact h
              · rw [List.getElem?_eq_none (by simp; omega)] at hj
                cases hj
            subst hj0
            simp at hj
            subst hj
            go_simp
          case n2 =>
            intro u hu
            simp at hu
            subst hu
            rfl
          case n3 => unfold maxLen; omega
          case n4 => omega
          case n5 => simp; omega
          intro v' w3 hown3 hgrow _
          have hb3 : Below (w.heap.size + 1) w1 w3 := (hbr.alloc (by omega) _).grown hgrow (by simp; omega) fun k hk => (row_block happ hk).1
          have hown4 : w3.ownsRow (w.heap.size + 1) 9 1 v' (ks ++ [X.data.toList]).length (textsK (ks ++ [X.data.toList])) := by
            rw [List.length_append]
            unfold textsK
            rw [List.map_append]
            exact hown3
          have Hown := Lib.hid hown4
          clear hown4 hown3 hgrow happ hown
          go_wp2
          go_roundw
          case rel => exact ⟨i + 1, by omega, by go_num, by rw [Hk2.out]; exact Hown.out, hb3⟩
          case measure => simp [intOf]; omega
      · have hne : (X.data.toList.take P.size == P.data.toList) = false := by
          rw [beq_eq_false_iff_ne]
          intro e
          have := congrArg List.length e
          rw [List.length_take, hpl, show X.data.toList.length = X.size from rfl] at this
          omega
        rw [hne, if_neg Bool.false_ne_true, List.append_nil] at hkk
        have Hkk := Lib.hid hkk
        clear hne hkk hcut hpt hpl hX
        have hlen2 : ¬ ((P.size : Int) ≤ (X.size : Int)) := by omega
        go_wp2
        go_roundw
        case rel => exact ⟨i + 1, by omega, by go_num, by rw [Hkk.out]; exact hown, hbr⟩
        case measure => simp [intOf]; omega
    · obtain rfl : i = n := by omega
      rw [List.take_of_length_le (by rw [Hn.out]; exact Nat.le_refl _)] at hown
      go_wp2
      go_ret
      exact ⟨_, rfl, row_more hown (by omega), hbw⟩
end Go.Proofs.YtcjmpkfcjcoobaaGreat
