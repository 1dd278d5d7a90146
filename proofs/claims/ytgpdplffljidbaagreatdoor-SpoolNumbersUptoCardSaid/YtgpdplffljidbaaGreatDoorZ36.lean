/-
  Texts of this proof, put together: SpM, S16A, SpN, SpO.
-/
import Derived.Test.YtgpdplffljidbaaGreatDoorZ35
import Derived.Test.YtgpdplffljidbaaGreatDoorZ31
import Derived.Lib.Atoi
import Derived.Laws.AppendOwn
import Derived.Lib.AtoiErrMem
namespace Go.Proofs.YtgpdplffljidbaaGreatDoor
open Go.RowKit

set_option maxRecDepth 100000 in
set_option maxHeartbeats 4000000 in
theorem sfailed_none (w : World) (N : Nat) (ps : List PairP) (l : List ItemS) (top : Nat) (lt : Option (List UInt8)) (hG : GetC w (.pointer (some ⟨N, 0, none⟩)) ps) (hq : QueueB ps l top lt) (ht : PowIs w) (n : Nat) (hm : n ≤ 99999999) (hno : ∀ x ∈ l, x.id ≠ (n : Int)) (now : Int) :
    Calls Tryz.prog 16 #[.pointer (some ⟨N, 0, none⟩), .int .i64 (n : Int), .int .i64 now] w fun e w' => e = .returned (.tuple #[chV [] [] false, .bool false, .int .i64 4]) ∧ Below w.heap.size w w' := by
  have hgt := fun W (hW : Below w.heap.size w W) => sget_no W N ps l top lt (fun V hV => hG V (hW.trans (hV.mono hW.size))) hq (pow_below ht hW) n hm hno
  obtain ⟨w1, hw1⟩ : ∃ w1, w.alloc (.cells #[.string ⟨#[]⟩, .string ⟨#[]⟩, .bool false] 50) = w1 := ⟨_, rfl⟩
  have b1 : Below w.heap.size w w1 := by rw [← hw1]; exact (Below.refl _ _).alloc (Nat.le_refl _) _
  have h1 : ChAt w1 w.heap.size ⟨#[]⟩ ⟨#[]⟩ false := by rw [← hw1]; exact heap_alloc_new w _
  have hg1 := hgt w1 b1
  have K1 := Lib.hid (And.intro b1 h1)
  clear hgt b1 h1 hG hq ht hno hm
  go_enter Tryz.func16, Tryz.ntmps16
  go_wp2_with fail
  refine hg1.mono ?_
  rintro e w2 ⟨rfl, hb⟩
  have b3 : Below w2.heap.size w2 (w2.alloc (.cells #[.int .i64 0, .string ⟨#[]⟩, .string ⟨#[]⟩, .string ⟨#[]⟩, .int .i64 0, .int .i64 0, .int .i64 0] 44)) := (Below.refl _ _).alloc (Nat.le_refl _) _
  have b13 := hb.trans (b3.mono hb.size)
  have o3 := K1.out.2.below b13
  obtain ⟨u0, u1, u2, f0, f1, f2⟩ := o3.cells
  have KP := Lib.hid o3
  have Fin := Lib.hid (below_putCh (K1.out.1.trans (b13.mono K1.out.1.size)) (Nat.le_refl _) ⟨#[]⟩ ⟨#[]⟩ false)
  unfold putCh at Fin
  clear hg1 hb b3 b13 o3
  go_wp2
  obtain ⟨g0, g1, g2, _⟩ := (KP.out.put ⟨#[]⟩ ⟨#[]⟩ false).cells
  unfold putCh at g0 g1 g2
  refine bodyPost_ret (v := .tuple #[.agg #[.string ⟨#[]⟩, .string ⟨#[]⟩, .bool false], .bool false, .int .i64 4]) (by simp [results, Tryz.f16, go_sem, g0, g1, g2]) rfl ?_
  exact ⟨rfl, Fin.out⟩
end Go.Proofs.YtgpdplffljidbaaGreatDoor
namespace Go.Proofs.YtgpdplffljidbaaGreatDoor

theorem from_snoc : ∀ (l : List UInt8) (acc m d : Nat) (c : UInt8), Lib.decFrom acc l = some m → Lib.digitVal c = some d → Lib.decFrom acc (l ++ [c]) = some (m * 10 + d)
  | [], acc, m, d, c, h, hd => by
    obtain rfl := Option.some.inj h
    show (match Lib.digitVal c with | some d => Lib.decFrom (acc * 10 + d) [] | none => none) = _
    rw [hd]
    rfl
  | a :: l, acc, m, d, c, h, hd => by
    unfold Lib.decFrom at h
    show (match Lib.digitVal a with | some d => Lib.decFrom (acc * 10 + d) (l ++ [c]) | none => none) = _
    cases ha : Lib.digitVal a with
    | none => rw [ha] at h; cases h
    | some e =>
      rw [ha] at h
      exact from_snoc l _ m d c h hd
theorem digit_val {d : Nat} (h : d < 10) : Lib.digitVal (UInt8.ofNat (48 + d)) = some d := by
  have e : (UInt8.ofNat (48 + d)).toNat = 48 + d := by
    rw [UInt8.toNat_ofNat']
    omega
  unfold Lib.digitVal
  rw [e, if_pos (by omega), show 48 + d - 48 = d by omega]
theorem from_fix : ∀ (k n acc : Nat), n < 10 ^ k → Lib.decFrom acc (fixS k n) = some (acc * 10 ^ k + n)
  | 0, n, acc, h => by
    have h : n < 1 := h
    obtain rfl : n = 0 := by omega
    show some acc = some (acc * 1 + 0)
    rw [Nat.mul_one, Nat.add_zero]
  | k + 1, n, acc, h => by
    unfold fixS
    rw [from_snoc _ acc _ (n % 10) _ (from_fix k (n / 10) acc (by rw [Nat.pow_succ] at h; omega)) (digit_val (Nat.mod_lt _ (by decide))), Nat.add_mul, Nat.pow_succ, Nat.mul_assoc]
    congr 1
    omega
theorem fix_head : ∀ (k n : Nat), ∃ c r, fixS (k + 1) n = c :: r ∧ 48 ≤ c.toNat
  | 0, n => ⟨UInt8.ofNat (48 + n % 10), [], rfl, by rw [UInt8.toNat_ofNat']; omega⟩
  | k + 1, n => by
    obtain ⟨c, r, e, h⟩ := fix_head k (n / 10)
    exact ⟨c, r ++ [UInt8.ofNat (48 + n % 10)], by unfold fixS; rw [e]; rfl, h⟩
theorem atoi_fix {n : Nat} (h : n ≤ 99999999) : Lib.atoi (fixS 8 n) = some (n : Int) := by
  have h8 : n < 10 ^ 8 := by
    have : 10 ^ 8 = 100000000 := by decide
    omega
  have hf := from_fix 8 n 0 h8
  obtain ⟨c, r, e, hc⟩ := fix_head 7 n
  rw [e] at hf ⊢
  have n1 : (c == 45) = false := beq_eq_false_iff_ne.2 (fun e => by rw [e] at hc; exact absurd hc (by decide))
  have n2 : (c == 43) = false := beq_eq_false_iff_ne.2 (fun e => by rw [e] at hc; exact absurd hc (by decide))
  unfold Lib.atoi
  show (if (c == 45) = true then _ else if (c == 43) = true then _ else _) = _
  rw [n1, n2]
  simp only [Bool.false_eq_true, if_false]
  unfold Lib.decNat
  rw [show (c :: r).isEmpty = false from rfl]
  simp only [Bool.false_eq_true, if_false]
  rw [hf]
  simp
end Go.Proofs.YtgpdplffljidbaaGreatDoor
namespace Go.Proofs.YtgpdplffljidbaaGreatDoor
open Go.RowKit

abbrev TextsK (w : World) (B : Nat) (v : Value) (l : List (List UInt8)) : Prop := w.ownsRow B 9 1 v l.length (l.map fun x => .string (textQ x))
def KeysC (w : World) (p : Value) (ps : List PairP) : Prop := ∀ W, Below w.heap.size w W →
  Calls Tryz.prog 42 #[p, .string (textQ [113, 47])] W fun e w' => ∃ v, e = .returned v ∧ TextsK w' W.heap.size v (keysP ps [113, 47]) ∧ Below W.heap.size W w'
theorem infoItem : (Tryz.prog.info? 44).map (fun i => (i.zero, i.size, i.bytes)) = some (some (.agg #[.int .i64 0, .string ⟨#[]⟩, .string ⟨#[]⟩, .string ⟨#[]⟩, .int .i64 0, .int .i64 0, .int .i64 0]), 7, 80) := by kernel_rfl
def itemCells (x : ItemS) : List Value := [.int .i64 x.id, .string (textQ x.fr), .string (textQ x.to), .string (textQ x.tx), .int .i64 x.b, .int .i64 x.t, .int .i64 x.d]
def itemsCells (l : List ItemS) : List Value := l.flatMap itemCells
abbrev ItemsOwn (w : World) (B : Nat) (v : Value) (l : List ItemS) : Prop := w.ownsRow B 44 7 v l.length (itemsCells l)
theorem append_item {w : World} {ops : Array Oper} {rest : List Oper} {o : Oper} {a : Act} {Q : Exit → Act → World → Prop} (hgd : o.guard = none) (s x : Operand)
    (ho : o.op = .call { callee := .builtin .append, args := #[s, x], argTypes := #[32, 32] }) (B : Nat) (v : Value) (l : List ItemS) (p : ItemS) (hs : a.eval s = v) (hown : ItemsOwn w B v l) (hB : B ≤ w.heap.size) (hl : l.length ≤ 1000000)
    (b c : Nat) (hx : a.eval x = .slice (some ⟨b, 0, none⟩) 1 c) (h0 : ∀ j, j < 7 → w.cell? ⟨b, j, none⟩ = (itemCells p)[j]?)
    (h : ∀ v' w', ItemsOwn w' B v' (l ++ [p]) → w.grownBy w' v.ownBlock → (v'.ownBlock = v.ownBlock ∨ v'.ownBlock = some w.heap.size) → wpList Tryz.prog ops Q rest (a.put o.dst v') w') : wpList Tryz.prog ops Q (o :: rest) a w := by
  obtain ⟨i0, hi, hz0, hz1, hz2⟩ := info_parts infoItem
  refine wpList_append_own_at w hgd s x 32 ho B 44 i0 _ 7 80 Tryz.underlying32 hi hz0 hz1 hz2 rfl (by decide) v l.length _ hs hown ⟨b, 0, none⟩ 1 c (itemCells p) hx rfl (fun j u hj => ?_) (fun u hu => ?_) (by unfold maxLen; omega) (by omega) hB (fun v' w' q1 q2 _ q3 => ?_)
  · rw [Addr.add_lit, Nat.zero_add]
    have hj6 : j < 7 := by
      rcases Nat.lt_or_ge j 7 with h6 | h6
      · exact h6
      · rw [List.getElem?_eq_none (by simp [itemCells]; omega)] at hj
        cases hj
    rw [h0 j hj6]
    exact hj
  · simp only [itemCells, List.mem_cons, List.not_mem_nil, or_false] at hu
    rcases hu with rfl | rfl | rfl | rfl | rfl | rfl | rfl <;> rfl
  · refine h v' w' ?_ q2 q3
    unfold ItemsOwn
    rw [List.length_append, show itemsCells (l ++ [p]) = itemsCells l ++ itemCells p by simp [itemsCells]]
    exact q1
theorem rows_apartS {w : World} {B C e f sz tz n m : Nat} {u v : Value} {xs ys : List Value} (h : w.ownsRow B e sz u n xs) (k : w.ownsRow C f tz v m ys) (hef : e ≠ f) : ∀ g, u.ownBlock = some g → v.ownBlock ≠ some g := fun g hu hv => by
  rcases h.2 with ⟨rfl, _⟩ | ⟨g1, c1, x1, rfl, _, h1, _⟩
  · cases hu
  rcases k.2 with ⟨rfl, _⟩ | ⟨g2, c2, x2, rfl, _, h2, _⟩
  · cases hv
  cases hu
  cases hv
  rw [h1] at h2
  cases h2
  exact hef rfl
end Go.Proofs.YtgpdplffljidbaaGreatDoor
namespace Go.Proofs.YtgpdplffljidbaaGreatDoor
open Go.RowKit

set_option maxRecDepth 100000 in
set_option maxHeartbeats 4000000 in
theorem slist_any (w : World) (N : Nat) (ps : List PairP) (l : List ItemS) (top : Nat) (lt : Option (List UInt8)) (hG : GetC w (.pointer (some ⟨N, 0, none⟩)) ps) (hK : KeysC w (.pointer (some ⟨N, 0, none⟩)) ps) (hq : QueueB ps l top lt) (ht : PowIs w) (hl : l.length ≤ 100000) :
    Calls Tryz.prog 19 #[.pointer (some ⟨N, 0, none⟩)] w fun e w' => ∃ v, e = .returned v ∧ ItemsOwn w' w.heap.size v l ∧ Below w.heap.size w w' := by
  have hk := hK w (Below.refl _ _)
  rw [queue_keys hq] at hk
  rw [show textQ [113, 47] = (⟨#[113, 47]⟩ : ByteArray) from rfl] at hk
  obtain ⟨n, hn⟩ : ∃ n, l.length = n := ⟨_, rfl⟩
  have HQ := Lib.hid (And.intro hG (And.intro hq (And.intro ht hn)))
  rw [hn] at hl
  replace hk : Calls Tryz.prog 42 #[.pointer (some ⟨N, 0, none⟩), .string ⟨#[113, 47]⟩] w fun e w' => ∃ ao cap, e = .returned (.slice ao n cap) ∧ Hid (TextsK w' w.heap.size (.slice ao n cap) (l.map fun x => keyS x.id.toNat)) ∧ Below w.heap.size w w' := hk.mono fun e w' ⟨v, h1, h2, h3⟩ => by
    have h4 := h2
    unfold TextsK at h4
    rw [List.length_map, hn] at h4
    obtain ⟨ao, cap, rfl⟩ := row_slice h4
    exact ⟨ao, cap, h1, Lib.hid h2, h3⟩
  clear hG hK hq ht hn
  go_enter Tryz.func19, Tryz.ntmps19
  go_wp2_with fail
  refine hk.mono ?_
  rintro e w1 ⟨ao, cap, rfl, hrow, hb⟩
  have L1 : Hid (ItemsOwn w1 w.heap.size (.slice none 0 0) (l.take 0) ∧ TextsK w1 w.heap.size (.slice ao n cap) (l.map fun x => keyS x.id.toNat) ∧ Below w.heap.size w w1) := Lib.hid ⟨World.ownsRow_nil _ _ _ _, hrow.out, hb⟩
  clear hk hrow hb
  go_wp2
  go_loopw [3, 13] (fun v iv wr => ∃ i : Nat, i ≤ n ∧ iv = .int .i64 i ∧ Hid (ItemsOwn wr w.heap.size v (l.take i) ∧ TextsK wr w.heap.size (.slice ao n cap) (l.map fun x => keyS x.id.toNat) ∧ Below w.heap.size w wr)) (fun _ iv _ => n - (intOf iv).toNat)
  case atStart => exact ⟨0, by omega, rfl, L1⟩
  case round =>
    clear L1
    obtain ⟨i, hi, rfl, hk⟩ := hrel
    by_cases hlt : i < n
    · obtain ⟨hG, hq, ht, hn⟩ := HQ.out
      have hil : i < l.length := by omega
      have htk := List.take_succ_eq_append_getElem hil
      have hxm := List.getElem_mem hil
      obtain ⟨x, hx⟩ : ∃ x, l[i] = x := ⟨_, rfl⟩
      rw [hx] at htk hxm
      obtain ⟨hr, m, hid, m1, m2⟩ := hq.ok x hxm
      have hm : m ≤ 99999999 := by have := hq.few; omega
      have hrow := hk.out.2.1
      obtain ⟨g, hg, z0⟩ : ∃ g, ao = some ⟨g, 0, none⟩ ∧ wr.cell? ⟨g, i, none⟩ = some (.string (textQ (keyS m))) := by
        rcases hrow.2 with ⟨e, _⟩ | ⟨g, c2, cur, e, _, _, _⟩
        · injection e with _ e2 _
          omega
        · have e' := e
          injection e' with e1 _ _
          refine ⟨g, e1, ?_⟩
          have c1 := World.ownsRow.cells (g := g) hrow (by rw [e]; rfl) i (.string (textQ (keyS m))) (by
            rw [List.getElem?_map, List.getElem?_map, List.getElem?_eq_getElem hil, hx]
            show some (Value.string (textQ (keyS x.id.toNat))) = _
            rw [hid, Int.toNat_natCast])
          rw [Addr.add_lit, Nat.zero_add] at c1
          exact c1
      subst hg
      have hbw := hk.out.2.2
      have hat := fun W => Tryz.strconv_Atoi (textQ (fixS 8 m)) (m : Int) (by show (fixS 8 m).length ≤ 18; rw [fix_len]; omega) (atoi_fix hm) W
      have hgt := fun W (hW : Below w.heap.size w W) => sget_yes W N ps l top lt (fun V hV => hG V (hW.trans (hV.mono hW.size))) hq (pow_below ht hW) x hxm m hid
      have hky := fun W (hW : Below w.heap.size w W) => skey_any m W hm (pow_below ht hW)
      have hsl : (textQ (keyS m)).extract 2 (textQ (keyS m)).size = textQ (fixS 8 m) := by
        rw [extract_textS, key_fix hm]
        rw [show (textQ ([113, 47] ++ fixS 8 m)).size = ([113, 47] ++ fixS 8 m).length from rfl, List.take_of_length_le (by rw [List.length_drop]; exact Nat.le_refl _)]
        rfl
      have hks : (textQ (keyS m)).size = 10 := key_len hm
      unfold itemV at hgt
      rw [hid] at hgt
      obtain ⟨KT, hKT⟩ : ∃ T, textQ (keyS m) = T := ⟨_, rfl⟩
      obtain ⟨DT, hDT⟩ : ∃ T, textQ (fixS 8 m) = T := ⟨_, rfl⟩
      obtain ⟨F, hF⟩ : ∃ F, textQ x.fr = F := ⟨_, rfl⟩
      obtain ⟨O, hO⟩ : ∃ F, textQ x.to = F := ⟨_, rfl⟩
      obtain ⟨X, hX⟩ : ∃ F, textQ x.tx = F := ⟨_, rfl⟩
      rw [hKT] at z0 hky hsl hks
      rw [hDT] at hat hsl
      rw [hF, hO, hX] at hgt
      rw [hks] at hsl
      have HGt := Lib.hid hgt
      have HKy := Lib.hid hky
      have HAt := Lib.hid hat
      have HX := Lib.hid (And.intro hid (And.intro hF (And.intro hO (And.intro hX (And.intro htk hbw)))))
      clear hG hq ht hn hx hxm hr m1 m2 hm hrow hbw hat hgt hky hKT hDT hF hO hX hil hid htk
      have hat := HAt.out wr
      go_wp2_with fail
      refine hat.mono ?_
      rintro e w2 ⟨rfl, t, hw2⟩
      have hb2 : Below wr.heap.size wr w2 := by rw [hw2]; exact Lib.bytesWorld_below _ _ _
      have B2 := Lib.hid (And.intro hb2 (HX.out.2.2.2.2.2.trans (hb2.mono HX.out.2.2.2.2.2.size)))
      have hg2 := HGt.out w2 B2.out.2
      clear hat hw2 hb2 z0
      go_wp2_with fail
      refine hg2.mono ?_
      rintro e w3 ⟨rfl, hb3⟩
      obtain ⟨V, hV⟩ : ∃ V, w3.alloc (.cells #[.int .i64 (m : Int), .string F, .string O, .string X, .int .i64 x.b, .int .i64 x.t, .int .i64 x.d] 44) = V := ⟨_, rfl⟩
      have bV : Below w3.heap.size w3 V := by rw [← hV]; exact (Below.refl _ _).alloc (Nat.le_refl _) _
      have iV : ItAt V w3.heap.size m F O X x.b x.t x.d := by rw [← hV]; exact it_new w3 _ _ _ _ _ _ _
      have b2V := hb3.trans (bV.mono hb3.size)
      have BV := Lib.hid (And.intro (B2.out.1.trans (b2V.mono B2.out.1.size)) (And.intro (B2.out.2.trans (b2V.mono B2.out.2.size)) iV))
      have hk4 := HKy.out V BV.out.2.1
      clear hg2 hb3 bV iV b2V
      go_wp2_with fail
      refine hk4.mono ?_
      rintro e w4 ⟨rfl, hb4⟩
      obtain ⟨w5, hw5⟩ : ∃ w5, w4.alloc (.cells #[.int .i64 (m : Int), .string F, .string O, .string X, .int .i64 x.b, .int .i64 x.t, .int .i64 x.d] 44) = w5 := ⟨_, rfl⟩
      have b5 : Below w4.heap.size w4 w5 := by rw [← hw5]; exact (Below.refl _ _).alloc (Nat.le_refl _) _
      have i5 : ItAt w5 w4.heap.size m F O X x.b x.t x.d := by rw [← hw5]; exact it_new w4 _ _ _ _ _ _ _
      obtain ⟨v0, v1, v2, v3, v4, v5, v6, _⟩ := (BV.out.2.2.below hb4).cells
      have b45 := hb4.trans (b5.mono hb4.size)
      have bR5 := BV.out.1.trans (b45.mono BV.out.1.size)
      have K5 := Lib.hid (show ItemsOwn w5 w.heap.size u3 (l.take i) ∧ TextsK w5 w.heap.size (.slice (some ⟨g, 0, none⟩) n cap) (l.map fun x => keyS x.id.toNat) ∧ Below w.heap.size w w5 from
        ⟨(Turned.of_below (S := fun _ => False) bR5 (Nat.le_refl _)).row hk.out.1 (fun _ _ h => h), (Turned.of_below (S := fun _ => False) bR5 (Nat.le_refl _)).row hk.out.2.1 (fun _ _ h => h), HX.out.2.2.2.2.2.trans (bR5.mono HX.out.2.2.2.2.2.size)⟩)
      have hcells : ∀ j, j < 7 → w5.cell? ⟨w4.heap.size, j, none⟩ = (itemCells x)[j]? := by
        intro j _
        obtain ⟨hid, hF, hO, hX, _⟩ := HX.out
        unfold itemCells
        rw [hid, hF, hO, hX]
        exact (Lib.cell_of_heap i5 j).trans (by simp)
      have HC := Lib.hid hcells
      have hti : (l.take i).length ≤ 1000000 := by rw [List.length_take]; omega
      clear hk4 hb4 b5 i5 b45 bR5 hcells hk B2 BV
      go_wp2_with (at_builtin; refine append_item rfl _ _ rfl w.heap.size u3 (l.take i) x rfl K5.out.1 K5.out.2.2.size hti w4.heap.size 1 rfl HC.out ?_)
      intro v' w6 ho hgr _
      have K6 := Lib.hid (show ItemsOwn w6 w.heap.size v' (l.take (i + 1)) ∧ TextsK w6 w.heap.size (.slice (some ⟨g, 0, none⟩) n cap) (l.map fun x => keyS x.id.toNat) ∧ Below w.heap.size w w6 from by
        refine ⟨by rw [HX.out.2.2.2.2.1]; exact ho, (Turned.of_grown (S := fun k => u3.ownBlock = some k) hgr (fun _ hk => .inl hk)).row K5.out.2.1 (fun b e e2 => rows_apartS K5.out.1 K5.out.2.1 (by decide) b e2 e), K5.out.2.2.grown hgr K5.out.2.2.size (fun k hk => (K5.out.1.lt k hk).1)⟩)
      clear ho hgr K5 HC v0 v1 v2 v3 v4 v5 v6
      go_wp2
      go_roundw
      case rel => exact ⟨i + 1, by omega, by go_num, K6⟩
      case measure => simp [intOf]; omega
    · obtain rfl : i = n := by omega
      have hfin := hk.out
      rw [List.take_of_length_le (by rw [HQ.out.2.2.2]; exact Nat.le_refl _)] at hfin
      have Fin := Lib.hid hfin
      clear hk hfin
      go_wp2
      go_ret
      exact ⟨_, rfl, Fin.out.1, Fin.out.2.2⟩
end Go.Proofs.YtgpdplffljidbaaGreatDoor
