/-
  Texts of this proof, put together: StD.
-/
import Derived.Test.YtgpdplffljidbaaGreatDoorZ23
namespace Go.Proofs.YtgpdplffljidbaaGreatDoor
open Go.RowKit Go.Maps

def szOf : Option Value → Nat
  | some (.string t) => t.size
  | _ => 0
theorem take_len (k : Nat) (o : Bool) (s : List UInt8) : (takeP k o s).2.1.length ≤ s.length ∧ (takeP k o s).2.2.length ≤ k ∧ (takeP k o s).2.2.length ≤ s.length := by
  unfold takeP
  split
  · simp only [List.length_drop, List.length_take]
    omega
  · simp
theorem valF_two (t : List UInt8) (h : t.length ≤ 2) : valF 0 t < 65536 := by
  match t, h with
  | [], _ => decide
  | [a], _ => have := a.toNat_lt; simp [valF]; omega
  | [a, b], _ => have := a.toNat_lt; have := b.toNat_lt; simp [valF]; omega
theorem parse_head (x : UInt8) (q : List UInt8) {c : Ch} {r : List UInt8} (h : headL (x :: q) = some (c, r)) : parseL (x :: q).length (x :: q) = (parseL r.length r).map (c :: ·) := by
  have hl := head_less h
  rw [List.length_cons] at hl ⊢
  rw [parseL, h]
  simp only
  rw [parse_fuel q.length r.length r (by omega) (Nat.le_refl _)]
theorem parse_bad (x : UInt8) (q : List UInt8) (h : headL (x :: q) = none) : parseL (x :: q).length (x :: q) = none := by
  rw [List.length_cons, parseL, h]
theorem parse_on (x : UInt8) (q : List UInt8) {P : Prop} [Decidable P] {c : Ch} {r : List UInt8} {acc : List Ch} {z : Option (List Ch)} (hc : ¬ P) (h : headL (x :: q) = if P then none else some (c, r)) (hp : z = (parseL (x :: q).length (x :: q)).map (acc ++ ·)) :
    z = (parseL r.length r).map ((acc ++ [c]) ++ ·) ∧ r.length < (x :: q).length := by
  rw [if_neg hc] at h
  refine ⟨?_, head_less h⟩
  rw [hp, parse_head x q h, Option.map_map]
  congr 1
  funext l
  simp
theorem parse_none : parseL ([] : List UInt8).length [] = some [] := by simp [parseL]

set_option maxRecDepth 100000 in
set_option maxHeartbeats 4000000 in
theorem parse_any (s : List UInt8) (hs : s.length ≤ 10000000) (w : World) :
    Calls Tryz.prog 47 #[.string (textQ s)] w fun e w' => ∃ v code, e = .returned (.tuple #[v, .int .i64 code]) ∧ Below w.heap.size w w' ∧
      ((parseL s.length s = none ∧ code = 2 ∧ v = .slice none 0 0) ∨ (∃ l, parseL s.length s = some l ∧ code = 0 ∧ OwnC9 w.heap.size w' v l)) := by
  obtain ⟨S, hS⟩ : ∃ S, textQ s = S := ⟨_, rfl⟩
  have HS := Lib.hid hS
  rw [hS]
  clear hS
  go_enter Tryz.func47, Tryz.ntmps47
  go_wp2
  --@a
  go_loopw [6] (fun v wr => ∃ r acc, Hid (Boxed wr w.heap.size 9 (.string (textQ r)) ∧ Boxed wr (w.heap.size + 1) 4 (.bool true) ∧ OwnC9 w.heap.size wr v acc ∧ Below w.heap.size w wr ∧ parseL s.length s = (parseL r.length r).map (acc ++ ·)) ∧ r.length + acc.length ≤ s.length) (fun _ wr => szOf (wr.cell? ⟨w.heap.size, 0, none⟩))
  case atStart =>
    refine ⟨s, [], Lib.hid ⟨?_, ?_, World.ownsRow_nil _ _ _ _, ?_, ?_⟩, by simp⟩
    · rw [HS.out]
      exact (Boxed.new w 9 (.string S)).alloc _
    · have := Boxed.new (w.alloc (.cells #[.string S] 9)) 4 (.bool true)
      rw [show (w.alloc (.cells #[.string S] 9)).heap.size = w.heap.size + 1 by simp] at this
      exact this
    · exact ((Below.refl _ w).alloc (Nat.le_refl _) _).alloc (by simp) _
    · cases parseL s.length s <;> simp
  case round =>
    obtain ⟨r, acc, H, hlen⟩ := hrel
    match r, H, hlen with
    | [], H, hlen =>
      obtain ⟨ha, hb, hown, hbr, hp⟩ := H.out
      have ca := ha.cell
      have hte : (textQ ([] : List UInt8)) = ⟨#[]⟩ := rfl
      rw [hte] at ca
      clear ha hb hte
      have Hx := Lib.hid (And.intro hown (And.intro hbr hp))
      clear hown hbr hp
      go_wp2
      --@b
      obtain ⟨hown, hbr, hp⟩ := Hx.out
      go_ret2
      refine ⟨u6, 0, rfl, hbr, .inr ⟨acc, ?_, rfl, hown⟩⟩
      rw [hp, parse_none]
      simp
    | x :: q, H, hlen =>
      obtain ⟨ha, hb, hown, hbr, hp⟩ := H.out
      have ca := ha.cell
      have hql : q.length ≤ 10000000 := by rw [List.length_cons] at hlen; omega
      have h1 : Calls Tryz.prog 75 #[.int .i64 1, .pointer (some ⟨w.heap.size, 0, none⟩), .pointer (some ⟨w.heap.size + 1, 0, none⟩)] wr fun e w' => e = .returned (.string ⟨#[x]⟩) ∧ Boxed w' w.heap.size 9 (.string (textQ q)) ∧ Boxed w' (w.heap.size + 1) 4 (.bool true) ∧ Turned (fun b => b = w.heap.size ∨ b = w.heap.size + 1) wr w' := by
        have := take_any w.heap.size (w.heap.size + 1) 1 true (x :: q) (by rw [List.length_cons]; omega) (by omega) (by omega) wr ha hb
        rw [show takeP 1 true (x :: q) = (true, q, [x]) by simp [takeP]] at this
        exact this
      obtain ⟨⟨o2, s2, t2⟩, e2⟩ : ∃ z, takeP 2 true q = z := ⟨_, rfl⟩
      obtain ⟨⟨o3, s3, t3⟩, e3⟩ : ∃ z, takeP 2 o2 s2 = z := ⟨_, rfl⟩
      obtain ⟨n1, hn1⟩ : ∃ n1, valF 0 t2 = n1 := ⟨_, rfl⟩
      obtain ⟨n2, hn2⟩ : ∃ n2, valF 0 t3 = n2 := ⟨_, rfl⟩
      obtain ⟨⟨o4, s4, t4⟩, e4⟩ : ∃ z, takeP n1 o3 s3 = z := ⟨_, rfl⟩
      obtain ⟨⟨o5, s5, t5⟩, e5⟩ : ∃ z, takeP n2 o4 s4 = z := ⟨_, rfl⟩
      have l2 := take_len 2 true q
      have l3 := take_len 2 o2 s2
      have l4 := take_len n1 o3 s3
      have l5 := take_len n2 o4 s4
      rw [e2] at l2
      rw [e3] at l3
      rw [e4] at l4
      rw [e5] at l5
      simp only at l2 l3 l4 l5
      have hm1 : n1 < 65536 := by rw [← hn1]; exact valF_two t2 l2.2.1
      have hm2 : n2 < 65536 := by rw [← hn2]; exact valF_two t3 l3.2.1
      have e4' : takeP (valF 0 t2) o3 s3 = (o4, s4, t4) := by rw [hn1]; exact e4
      have e5' : takeP (valF 0 t3) o4 s4 = (o5, s5, t5) := by rw [hn2]; exact e5
      have hhead := head_takes x q e2 e3 e4' e5'
      clear e4' e5'
      have T : Hid (∀ (k : Nat) (kv : Int) (o : Bool) (l : List UInt8) (z : Bool × List UInt8 × List UInt8) (W : World), l.length ≤ 10000000 → k ≤ 10000000 → kv = (k : Int) → takeP k o l = z → Boxed W w.heap.size 9 (.string (textQ l)) → Boxed W (w.heap.size + 1) 4 (.bool o) → Calls Tryz.prog 75 #[.int .i64 kv, .pointer (some ⟨w.heap.size, 0, none⟩), .pointer (some ⟨w.heap.size + 1, 0, none⟩)] W fun e w' => e = .returned (.string (textQ z.2.2)) ∧ Boxed w' w.heap.size 9 (.string (textQ z.2.1)) ∧ Boxed w' (w.heap.size + 1) 4 (.bool z.1) ∧ Turned (fun b => b = w.heap.size ∨ b = w.heap.size + 1) W w') := Lib.hid fun k kv o l z W hl hk hkv hz ha hb => by
        subst hkv
        rw [← hz]
        exact take_any w.heap.size (w.heap.size + 1) k o l (by omega) (by omega) (by omega) W ha hb
      have N : Hid (∀ (t : List UInt8) (n : Nat) (W : World), t.length ≤ 2 → valF 0 t = n → Calls Tryz.prog 76 #[.string (textQ t)] W fun e w' => e = .returned (.int .u32 (n : Int)) ∧ w' = W) := Lib.hid fun t n W ht hn => by
        have := num_any (textQ t) (by show t.length ≤ 8; omega) W
        rw [show (textQ t).data.toList = t from rfl, numB_val t (by omega), hn] at this
        exact this
      obtain ⟨R, hR⟩ : ∃ R, textQ (x :: q) = R := ⟨_, rfl⟩
      have hRe : R.toList.isEmpty = false := by rw [← hR, text_list]; rfl
      rw [hR] at ca
      have HE := Lib.hid (And.intro e2 (And.intro e3 (And.intro e4 (And.intro e5 (And.intro hn1 hn2)))))
      have HL := Lib.hid (And.intro l2 (And.intro l3 (And.intro l4 (And.intro l5 hql))))
      have HX := Lib.hid (And.intro hown (And.intro hbr (And.intro hp hhead)))
      clear ha hb hown hbr hp hR e2 e3 e4 e5 hn1 hn2 l2 l3 l4 l5 hql hhead
      go_wp2_with (first
        | (go_at_call 75; with_reducible refine h1.mono ?_; rintro e w1 ⟨rfl, a1, b1, u1⟩; have h2 := T.out 2 2 true q _ w1 HL.out.2.2.2.2 (by omega) rfl HE.out.1 a1 b1; simp only at h2; clear h1 a1 b1)
        | (go_at_call 75; with_reducible refine h2.mono ?_; rintro e w2 ⟨rfl, a2, b2, u2⟩; have hN1 := N.out t2 n1 w2 HL.out.1.2.1 HE.out.2.2.2.2.1; have h3 := T.out 2 2 o2 s2 _ w2 (by have := HL.out; omega) (by omega) rfl HE.out.2.1 a2 b2; simp only at h3; clear h2 a2 b2)
        | (go_at_call 76; with_reducible refine hN1.mono ?_; rintro e w8 ⟨rfl, rfl⟩)
        | (go_at_call 75; with_reducible refine h3.mono ?_; rintro e w3 ⟨rfl, a3, b3, u3⟩; have hN2 := N.out t3 n2 w3 HL.out.2.1.2.1 HE.out.2.2.2.2.2; have h4 := T.out n1 n1 o3 s3 _ w3 (by have := HL.out; omega) (by omega) rfl HE.out.2.2.1 a3 b3; simp only at h4; clear h3 a3 b3 hN1)
        | (go_at_call 76; with_reducible refine hN2.mono ?_; rintro e w9 ⟨rfl, rfl⟩)
        | (go_at_call 75; with_reducible refine h4.mono ?_; rintro e w4 ⟨rfl, a4, b4, u4⟩; have h5 := T.out n2 n2 o4 s4 _ w4 (by have := HL.out; omega) (by omega) rfl HE.out.2.2.2.1 a4 b4; simp only at h5; clear h4 a4 b4 hN2))
      with_reducible refine h5.mono ?_
      rintro e w5 ⟨rfl, a5, b5, u5⟩
      have cb5 := b5.cell
      have hz5 : w.heap.size + 1 < w5.heap.size := b5.lt
      have hz6 : w.heap.size + 1 ≠ w5.heap.size := Nat.ne_of_lt hz5
      have cb6 := (((Below.refl _ w5).alloc (Nat.le_refl _) (.cells #[.string (textQ t4), .string (textQ t5), .bool ((x.toNat : Int) == 1)] 50)).cell (p := ⟨w.heap.size + 1, 0, none⟩) hz5).trans cb5
      obtain ⟨hown, hbr, hp, hhead⟩ := HX.out
      obtain ⟨a0, b0, _⟩ := H.out
      have ua : Turned (fun b => b = w.heap.size ∨ b = w.heap.size + 1) wr w5 := (((u1.trans u2 fun _ h => .inl h).trans u3 fun _ h => .inl h).trans u4 fun _ h => .inl h).trans u5 fun _ h => .inl h
      have hne : ∀ b, u6.ownBlock = some b → ¬ (b = w.heap.size ∨ b = w.heap.size + 1) := fun b e h => by
        obtain ⟨_, cur, hc⟩ := row_block hown e
        rcases h with rfl | rfl
        · rw [show wr.heap[w.heap.size]? = _ from a0] at hc
          cases hc
        · rw [show wr.heap[w.heap.size + 1]? = _ from b0] at hc
          cases hc
      have hown5 : OwnC9 w.heap.size w5 u6 acc := ua.row hown hne
      have hb5 : Below w.heap.size w w5 := hbr.trans (ua.below hbr.size fun b h => by omega)
      have hbz5 := hb5.size
      have hap : Hid (∀ gn : Bool, OwnC9 w.heap.size ((w5.alloc (.cells #[.string (textQ t4), .string (textQ t5), .bool gn] 50)).alloc (.cells #[.string (textQ t4), .string (textQ t5), .bool gn] 50)) u6 acc ∧
          Below w.heap.size w ((w5.alloc (.cells #[.string (textQ t4), .string (textQ t5), .bool gn] 50)).alloc (.cells #[.string (textQ t4), .string (textQ t5), .bool gn] 50)) ∧
          Boxed ((w5.alloc (.cells #[.string (textQ t4), .string (textQ t5), .bool gn] 50)).alloc (.cells #[.string (textQ t4), .string (textQ t5), .bool gn] 50)) w.heap.size 9 (.string (textQ s5)) ∧
          Boxed ((w5.alloc (.cells #[.string (textQ t4), .string (textQ t5), .bool gn] 50)).alloc (.cells #[.string (textQ t4), .string (textQ t5), .bool gn] 50)) (w.heap.size + 1) 4 (.bool o5)) := Lib.hid fun gn =>
        ⟨(World.ownsRow.alloc hown5 _).alloc _, (hb5.alloc hbz5 _).alloc (by simp; omega) _, (a5.alloc _).alloc _, (b5.alloc _).alloc _⟩
      have hb5h := Lib.hid hb5
      have hgone : ((x.toNat : Int) == 1) = (x == 1) := by
        rw [Bool.eq_iff_iff, beq_iff_eq, beq_iff_eq]
        constructor
        · intro h
          exact UInt8.toNat_inj.1 (by have : x.toNat = 1 := by omega
                                      exact this)
        · rintro rfl
          rfl
      have hll : acc.length ≤ 100000000 := by omega
      have HB := Lib.hid (And.intro hp (And.intro hgone hne))
      have Hhd := Lib.hid hhead
      clear h5 a5 b5 u1 u2 u3 u4 u5 hown hbr hp hhead a0 b0 ua hown5 hb5 hgone hne
      --@c1
      go_wp2_with (first
        | (at_builtin; refine wpList_append_c rfl _ _ rfl w.heap.size u6 acc ⟨t4, t5, true⟩ rfl (hap.out true).1 (by simp; omega) hll (w5.heap.size + 1) 1 rfl (by go_simp) (by go_simp) (by go_simp) ?_; intro v7 w7 hown7 ht7 hf7; have Hk := Lib.hid (And.intro (hap.out true).2 (And.intro hown7 (And.intro ht7 hf7))); clear hown7 ht7 hf7)
        | (at_builtin; refine wpList_append_c rfl _ _ rfl w.heap.size u6 acc ⟨t4, t5, (x.toNat : Int) == 1⟩ rfl (hap.out ((x.toNat : Int) == 1)).1 (by simp; omega) hll (w5.heap.size + 1) 1 rfl (by first | (go_simp; done) | (go_simp; rfl) | rfl) (by first | (go_simp; done) | (go_simp; rfl) | rfl) (by first | (go_simp; done) | (go_simp; rfl) | rfl) ?_; intro v7 w7 hown7 ht7 hf7; have Hk := Lib.hid (And.intro (hap.out ((x.toNat : Int) == 1)).2 (And.intro hown7 (And.intro ht7 hf7))); clear hown7 ht7 hf7))
      --@c2
      all_goals have hbad : (o5 = false ∨ 1 < x.toNat ∨ (x = 1 ∧ t5 ≠ [])) → parseL (x :: q).length (x :: q) = none := fun hc => parse_bad x q (by rw [Hhd.out, if_pos hc])
      all_goals have herr : (o5 = false ∨ 1 < x.toNat ∨ (x = 1 ∧ t5 ≠ [])) → parseL s.length s = none := fun hc => (by rw [HB.out.1, hbad hc]; rfl)
      all_goals have hok : ¬ (o5 = false ∨ 1 < x.toNat ∨ (x = 1 ∧ t5 ≠ [])) → parseL s.length s = (parseL s5.length s5).map ((acc ++ [⟨t4, t5, x == 1⟩]) ++ ·) ∧ s5.length < (x :: q).length := fun hc => parse_on x q hc Hhd.out HB.out.1
      · have hx1 : (x.toNat : Int) = 1 := by assumption
        have hxe : x = 1 := UInt8.toNat_inj.1 (show x.toNat = 1 by omega)
        have ht5 : t5 ≠ [] := by
          have h0 : (!(textQ t5).toList.isEmpty) = true := by assumption
          rw [text_list] at h0
          simpa using h0
        have hn := herr (.inr (.inr ⟨hxe, ht5⟩))
        have hn2 := hbad (.inr (.inr ⟨hxe, ht5⟩))
        clear herr hok
        go_ret2
        first
          | exact ⟨_, 2, rfl, hb5h.out.alloc hbz5 _, .inl ⟨hn, rfl, rfl⟩⟩
          | exact ⟨_, 2, rfl, hb5h.out.alloc hbz5 _, .inl ⟨hn2, rfl, rfl⟩⟩
      · have ho : o5 = true := by assumption
        obtain ⟨hp, hgone, hne⟩ := HB.out
        obtain ⟨⟨hbw, hbx, hby⟩, hown7, ht7, hf7⟩ := Hk.out
        have hx1 : (x.toNat : Int) = 1 := by assumption
        have hxe : x = 1 := UInt8.toNat_inj.1 (show x.toNat = 1 by omega)
        have hflag : true = (x == 1) := by rw [hxe]; rfl
        have ht5 : t5 = [] := by
          have h0 : (!(textQ t5).toList.isEmpty) = false := by assumption
          rw [text_list] at h0
          simpa using h0
        have hcnd : ¬ (o5 = false ∨ 1 < x.toNat ∨ x = 1 ∧ t5 ≠ []) := by
          rintro (h | h | ⟨_, h⟩)
          · rw [ho] at h; cases h
          · omega
          · exact h ht5
        obtain ⟨hq, hless⟩ := hok hcnd
        refine ⟨⟨s5, acc ++ [⟨t4, t5, x == 1⟩], Lib.hid ⟨ht7.heap hbx fun e => hne _ e (.inl rfl), ?_, ?_, hbw.trans (ht7.below hbw.size fun b e => (row_block (hap.out true).1 e).1), hq⟩, ?_⟩, ?_⟩
        · rw [← ho]
          exact ht7.heap hby fun e => hne _ e (.inr rfl)
        · rw [← hflag]
          exact hown7
        · rw [List.length_append, List.length_cons, List.length_nil]
          rw [List.length_cons] at hlen hless
          omega
        · rw [Boxed.cell (ht7.heap hbx fun e => hne _ e (.inl rfl)), H.out.1.cell]
          exact hless
      · have ho : o5 = true := by assumption
        obtain ⟨hp, hgone, hne⟩ := HB.out
        obtain ⟨⟨hbw, hbx, hby⟩, hown7, ht7, hf7⟩ := Hk.out
        have hx1 : ¬ (x.toNat : Int) = 1 := by assumption
        have hxl : (x.toNat : Int) ≤ 1 := by assumption
        have hflag := hgone
        have hcnd : ¬ (o5 = false ∨ 1 < x.toNat ∨ x = 1 ∧ t5 ≠ []) := by
          rintro (h | h | ⟨h, _⟩)
          · rw [ho] at h; cases h
          · omega
          · rw [h] at hx1; exact hx1 rfl
        obtain ⟨hq, hless⟩ := hok hcnd
        refine ⟨⟨s5, acc ++ [⟨t4, t5, x == 1⟩], Lib.hid ⟨ht7.heap hbx fun e => hne _ e (.inl rfl), ?_, ?_, hbw.trans (ht7.below hbw.size fun b e => (row_block (hap.out ((x.toNat : Int) == 1)).1 e).1), hq⟩, ?_⟩, ?_⟩
        · rw [← ho]
          exact ht7.heap hby fun e => hne _ e (.inr rfl)
        · rw [← hflag]
          exact hown7
        · rw [List.length_append, List.length_cons, List.length_nil]
          rw [List.length_cons] at hlen hless
          omega
        · rw [Boxed.cell (ht7.heap hbx fun e => hne _ e (.inl rfl)), H.out.1.cell]
          exact hless
      · have hx1 : 1 < (x.toNat : Int) := by assumption
        have hn := herr (.inr (.inl (by omega)))
        have hn2 := hbad (.inr (.inl (by omega)))
        clear herr hok
        go_ret2
        first
          | exact ⟨_, 2, rfl, hb5h.out.alloc hbz5 _, .inl ⟨hn, rfl, rfl⟩⟩
          | exact ⟨_, 2, rfl, hb5h.out.alloc hbz5 _, .inl ⟨hn2, rfl, rfl⟩⟩
      · have ho : ¬ o5 = true := by assumption
        have hn := herr (.inl (by simpa using ho))
        have hn2 := hbad (.inl (by simpa using ho))
        clear herr hok
        go_ret2
        first
          | exact ⟨_, 2, rfl, hb5h.out.alloc hbz5 _, .inl ⟨hn, rfl, rfl⟩⟩
          | exact ⟨_, 2, rfl, hb5h.out.alloc hbz5 _, .inl ⟨hn2, rfl, rfl⟩⟩
end Go.Proofs.YtgpdplffljidbaaGreatDoor
