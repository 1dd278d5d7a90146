/-
  Texts of this proof, put together: StD, StE, StF, StG, StH.
-/
import Derived.Test.YtcjmpkfcjcoobaaGreatX38
import Derived.Test.YtcjmpkfcjcoobaaGreatX23
namespace Go.Proofs.YtcjmpkfcjcoobaaGreat
open Go.RowKit Go.Maps

def szOf : Option Value → Nat
  | some (.string t) => t.size
  | _ => 0
theorem take_len (k : Nat) (o : Bool) (s : List UInt8) : (takeP k o s).2.1.length ≤ s.length ∧ (takeP k o s).2.2.length ≤ k ∧ (takeP k o s).2.2.length ≤ s.length := by
  unfold takeP
  split
  · simp only [List.length_drop, List.length_take]
    omega
  · simp
theorem valF_two (t : List UInt8) (h : t.length ≤ 2) : valF 0 t < 65536 := by
  match t, h with
  | [], _ => decide
  | [a], _ => have := a.toNat_lt; simp [valF]; omega
  | [a, b], _ => have := a.toNat_lt; have := b.toNat_lt; simp [valF]; omega
theorem parse_head (x : UInt8) (q : List UInt8) {c : Ch} {r : List UInt8} (h : headL (x :: q) = some (c, r)) : parseL (x :: q).length (x :: q) = (parseL r.length r).map (c :: ·) := by
  have hl := head_less h
  rw [List.length_cons] at hl ⊢
  rw [parseL, h]
  simp only
  rw [parse_fuel q.length r.length r (by omega) (Nat.le_refl _)]
theorem parse_bad (x : UInt8) (q : List UInt8) (h : headL (x :: q) = none) : parseL (x :: q).length (x :: q) = none := by
  rw [List.length_cons, parseL, h]
theorem parse_on (x : UInt8) (q : List UInt8) {P : Prop} [Decidable P] {c : Ch} {r : List UInt8} {acc : List Ch} {z : Option (List Ch)} (hc : ¬ P) (h : headL (x :: q) = if P then none else some (c, r)) (hp : z = (parseL (x :: q).length (x :: q)).map (acc ++ ·)) :
    z = (parseL r.length r).map ((acc ++ [c]) ++ ·) ∧ r.length < (x :: q).length := by
  rw [if_neg hc] at h
  refine ⟨?_, head_less h⟩
  rw [hp, parse_head x q h, Option.map_map]
  congr 1
  funext l
  simp
theorem parse_none : parseL ([] : List UInt8).length [] = some [] := by simp [parseL]

set_option maxRecDepth 100000 in
set_option maxHeartbeats 4000000 in
theorem parse_any (s : List UInt8) (hs : s.length ≤ 10000000) (w : World) :
    Calls Tryz.prog 11 #[.string (textQ s)] w fun e w' => ∃ v code, e = .returned (.tuple #[v, .int .i64 code]) ∧ Below w.heap.size w w' ∧
      ((parseL s.length s = none ∧ code = 2 ∧ v = .slice none 0 0) ∨ (∃ l, parseL s.length s = some l ∧ code = 0 ∧ OwnC9 w.heap.size w' v l)) := by
  obtain ⟨S, hS⟩ : ∃ S, textQ s = S := ⟨_, rfl⟩
  have HS := Lib.hid hS
  rw [hS]
  clear hS
  go_enter Tryz.func11, Tryz.ntmps11
  go_wp2
  --@a
  go_loopw [6] (fun v wr => ∃ r acc, Hid (Boxed wr w.heap.size 9 (.string (textQ r)) ∧ Boxed wr (w.heap.size + 1) 4 (.bool true) ∧ OwnC9 w.heap.size wr v acc ∧ Below w.heap.size w wr ∧ parseL s.length s = (parseL r.length r).map (acc ++ ·)) ∧ r.length + acc.length ≤ s.length) (fun _ wr => szOf (wr.cell? ⟨w.heap.size, 0, none⟩))
  case atStart =>
    refine ⟨s, [], Lib.hid ⟨?_, ?_, World.ownsRow_nil _ _ _ _, ?_, ?_⟩, by simp⟩
    · rw [HS.out]
      exact (Boxed.new w 9 (.string S)).alloc _
    · have := Boxed.new (w.alloc (.cells #[.string S] 9)) 4 (.bool true)
      rw [show (w.alloc (.cells #[.string S] 9)).heap.size = w.heap.size + 1 by simp] at this
      exact this
    · exact ((Below.refl _ w).alloc (Nat.le_refl _) _).alloc (by simp) _
    · cases parseL s.length s <;> simp
  case round =>
    obtain ⟨r, acc, H, hlen⟩ := hrel
    match r, H, hlen with
    | [], H, hlen =>
      obtain ⟨ha, hb, hown, hbr, hp⟩ := H.out
      have ca := ha.cell
      have hte : (textQ ([] : List UInt8)) = ⟨#[]⟩ := rfl
      rw [hte] at ca
      clear ha hb hte
      have Hx := Lib.hid (And.intro hown (And.intro hbr hp))
      clear hown hbr hp
      go_wp2
      --@b
      obtain ⟨hown, hbr, hp⟩ := Hx.out
      go_ret2
      refine ⟨u6, 0, rfl, hbr, .inr ⟨acc, ?_, rfl, hown⟩⟩
      rw [hp, parse_none]
      simp
    | x :: q, H, hlen =>
      obtain ⟨ha, hb, hown, hbr, hp⟩ := H.out
      have ca := ha.cell
      have hql : q.length ≤ 10000000 := by rw [List.length_cons] at hlen; omega
      have h1 : Calls Tryz.prog 33 #[.int .i64 1, .pointer (some ⟨w.heap.size, 0, none⟩), .pointer (some ⟨w.heap.size + 1, 0, none⟩)] wr fun e w' => e = .returned (.string ⟨#[x]⟩) ∧ Boxed w' w.heap.size 9 (.string (textQ q)) ∧ Boxed w' (w.heap.size + 1) 4 (.bool true) ∧ Turned (fun b => b = w.heap.size ∨ b = w.heap.size + 1) wr w' := by
        have := take_any w.heap.size (w.heap.size + 1) 1 true (x :: q) (by rw [List.length_cons]; omega) (by omega) (by omega) wr ha hb
        rw [show takeP 1 true (x :: q) = (true, q, [x]) by simp [takeP]] at this
        exact this
      obtain ⟨⟨o2, s2, t2⟩, e2⟩ : ∃ z, takeP 2 true q = z := ⟨_, rfl⟩
      obtain ⟨⟨o3, s3, t3⟩, e3⟩ : ∃ z, takeP 2 o2 s2 = z := ⟨_, rfl⟩
      obtain ⟨n1, hn1⟩ : ∃ n1, valF 0 t2 = n1 := ⟨_, rfl⟩
      obtain ⟨n2, hn2⟩ : ∃ n2, valF 0 t3 = n2 := ⟨_, rfl⟩
      obtain ⟨⟨o4, s4, t4⟩, e4⟩ : ∃ z, takeP n1 o3 s3 = z := ⟨_, rfl⟩
      obtain ⟨⟨o5, s5, t5⟩, e5⟩ : ∃ z, takeP n2 o4 s4 = z := ⟨_, rfl⟩
      have l2 := take_len 2 true q
      have l3 := take_len 2 o2 s2
      have l4 := take_len n1 o3 s3
      have l5 := take_len n2 o4 s4
      rw [e2] at l2
      rw [e3] at l3
      rw [e4] at l4
      rw [e5] at l5
      simp only at l2 l3 l4 l5
      have hm1 : n1 < 65536 := by rw [← hn1]; exact valF_two t2 l2.2.1
      have hm2 : n2 < 65536 := by rw [← hn2]; exact valF_two t3 l3.2.1
      have e4' : takeP (valF 0 t2) o3 s3 = (o4, s4, t4) := by rw [hn1]; exact e4
      have e5' : takeP (valF 0 t3) o4 s4 = (o5, s5, t5) := by rw [hn2]; exact e5
      have hhead := head_takes x q e2 e3 e4' e5'
      clear e4' e5'
      have T : Hid (∀ (k : Nat) (kv : Int) (o : Bool) (l : List UInt8) (z : Bool × List UInt8 × List UInt8) (W : World), l.length ≤ 10000000 → k ≤ 10000000 → kv = (k : Int) → takeP k o l = z → Boxed W w.heap.size 9 (.string (textQ l)) → Boxed W (w.heap.size + 1) 4 (.bool o) → Calls Tryz.prog 33 #[.int .i64 kv, .pointer (some ⟨w.heap.size, 0, none⟩), .pointer (some ⟨w.heap.size + 1, 0, none⟩)] W fun e w' => e = .returned (.string (textQ z.2.2)) ∧ Boxed w' w.heap.size 9 (.string (textQ z.2.1)) ∧ Boxed w' (w.heap.size + 1) 4 (.bool z.1) ∧ Turned (fun b => b = w.heap.size ∨ b = w.heap.size + 1) W w') := Lib.hid fun k kv o l z W hl hk hkv hz ha hb => by
        subst hkv
        rw [← hz]
        exact take_any w.heap.size (w.heap.size + 1) k o l (by omega) (by omega) (by omega) W ha hb
      have N : Hid (∀ (t : List UInt8) (n : Nat) (W : World), t.length ≤ 2 → valF 0 t = n → Calls Tryz.prog 34 #[.string (textQ t)] W fun e w' => e = .returned (.int .u32 (n : Int)) ∧ w' = W) := Lib.hid fun t n W ht hn => by
        have := num_any (textQ t) (by show t.length ≤ 8; omega) W
        rw [show (textQ t).data.toList = t from rfl, numB_val t (by omega), hn] at this
        exact this
      obtain ⟨R, hR⟩ : ∃ R, textQ (x :: q) = R := ⟨_, rfl⟩
      have hRe : R.toList.isEmpty = false := by rw [← hR, text_list]; rfl
      rw [hR] at ca
      have HE := Lib.hid (And.intro e2 (And.intro e3 (And.intro e4 (And.intro e5 (And.intro hn1 hn2)))))
      have HL := Lib.hid (And.intro l2 (And.intro l3 (And.intro l4 (And.intro l5 hql))))
      have HX := Lib.hid (And.intro hown (And.intro hbr (And.intro hp hhead)))
      clear ha hb hown hbr hp hR e2 e3 e4 e5 hn1 hn2 l2 l3 l4 l5 hql hhead
      go_wp2_with (first
        | (go_at_call 33; with_reducible refine h1.mono ?_; rintro e w1 ⟨rfl, a1, b1, u1⟩; have h2 := T.out 2 2 true q _ w1 HL.out.2.2.2.2 (by omega) rfl HE.out.1 a1 b1; simp only at h2; clear h1 a1 b1)
        | (go_at_call 33; with_reducible refine h2.mono ?_; rintro e w2 ⟨rfl, a2, b2, u2⟩; have hN1 := N.out t2 n1 w2 HL.out.1.2.1 HE.out.2.2.2.2.1; have h3 := T.out 2 2 o2 s2 _ w2 (by have := HL.out; omega) (by omega) rfl HE.out.2.1 a2 b2; simp only at h3; clear h2 a2 b2)
        | (go_at_call 34; with_reducible refine hN1.mono ?_; rintro e w8 ⟨rfl, rfl⟩)
        | (go_at_call 33; with_reducible refine h3.mono ?_; rintro e w3 ⟨rfl, a3, b3, u3⟩; have hN2 := N.out t3 n2 w3 HL.out.2.1.2.1 HE.out.2.2.2.2.2; have h4 := T.out n1 n1 o3 s3 _ w3 (by have := HL.out; omega) (by omega) rfl HE.out.2.2.1 a3 b3; simp only at h4; clear h3 a3 b3 hN1)
        | (go_at_call 34; with_reducible refine hN2.mono ?_; rintro e w9 ⟨rfl, rfl⟩)
        | (go_at_call 33; with_reducible refine h4.mono ?_; rintro e w4 ⟨rfl, a4, b4, u4⟩; have h5 := T.out n2 n2 o4 s4 _ w4 (by have := HL.out; omega) (by omega) rfl HE.out.2.2.2.1 a4 b4; simp only at h5; clear h4 a4 b4 hN2))
      with_reducible refine h5.mono ?_
      rintro e w5 ⟨rfl, a5, b5, u5⟩
      have cb5 := b5.cell
      have hz5 : w.heap.size + 1 < w5.heap.size := b5.lt
      have hz6 : w.heap.size + 1 ≠ w5.heap.size := Nat.ne_of_lt hz5
      have cb6 := (((Below.refl _ w5).alloc (Nat.le_refl _) (.cells #[.string (textQ t4), .string (textQ t5), .bool ((x.toNat : Int) == 1)] 25)).cell (p := ⟨w.heap.size + 1, 0, none⟩) hz5).trans cb5
      obtain ⟨hown, hbr, hp, hhead⟩ := HX.out
      obtain ⟨a0, b0, _⟩ := H.out
      have ua : Turned (fun b => b = w.heap.size ∨ b = w.heap.size + 1) wr w5 := (((u1.trans u2 fun _ h => .inl h).trans u3 fun _ h => .inl h).trans u4 fun _ h => .inl h).trans u5 fun _ h => .inl h
      have hne : ∀ b, u6.ownBlock = some b → ¬ (b = w.heap.size ∨ b = w.heap.size + 1) := fun b e h => by
        obtain ⟨_, cur, hc⟩ := row_block hown e
        rcases h with rfl | rfl
        · rw [show wr.heap[w.heap.size]? = _ from a0] at hc
          cases hc
        · rw [show wr.heap[w.heap.size + 1]? = _ from b0] at hc
          cases hc
      have hown5 : OwnC9 w.heap.size w5 u6 acc := ua.row hown hne
      have hb5 : Below w.heap.size w w5 := hbr.trans (ua.below hbr.size fun b h => by omega)
      have hbz5 := hb5.size
      have hap : Hid (∀ gn : Bool, OwnC9 w.heap.size ((w5.alloc (.cells #[.string (textQ t4), .string (textQ t5), .bool gn] 25)).alloc (.cells #[.string (textQ t4), .string (textQ t5), .bool gn] 25)) u6 acc ∧
          Below w.heap.size w ((w5.alloc (.cells #[.string (textQ t4), .string (textQ t5), .bool gn] 25)).alloc (.cells #[.string (textQ t4), .string (textQ t5), .bool gn] 25)) ∧
          Boxed ((w5.alloc (.cells #[.string (textQ t4), .string (textQ t5), .bool gn] 25)).alloc (.cells #[.string (textQ t4), .string (textQ t5), .bool gn] 25)) w.heap.size 9 (.string (textQ s5)) ∧
          Boxed ((w5.alloc (.cells #[.string (textQ t4), .string (textQ t5), .bool gn] 25)).alloc (.cells #[.string (textQ t4), .string (textQ t5), .bool gn] 25)) (w.heap.size + 1) 4 (.bool o5)) := Lib.hid fun gn =>
        ⟨(World.ownsRow.alloc hown5 _).alloc _, (hb5.alloc hbz5 _).alloc (by simp; omega) _, (a5.alloc _).alloc _, (b5.alloc _).alloc _⟩
      have hb5h := Lib.hid hb5
      have hgone : ((x.toNat : Int) == 1) = (x == 1) := by
        rw [Bool.eq_iff_iff, beq_iff_eq, beq_iff_eq]
        constructor
        · intro h
          exact UInt8.toNat_inj.1 (by have : x.toNat = 1 := by omega
                                      exact this)
        · rintro rfl
          rfl
      have hll : acc.length ≤ 100000000 := by omega
      have HB := Lib.hid (And.intro hp (And.intro hgone hne))
      have Hhd := Lib.hid hhead
      clear h5 a5 b5 u1 u2 u3 u4 u5 hown hbr hp hhead a0 b0 ua hown5 hb5 hgone hne
      --@c1
      go_wp2_with (first
        | (at_builtin; refine wpList_append_c rfl _ _ rfl w.heap.size u6 acc ⟨t4, t5, true⟩ rfl (hap.out true).1 (by simp; omega) hll (w5.heap.size + 1) 1 rfl (by go_simp) (by go_simp) (by go_simp) ?_; intro v7 w7 hown7 ht7 hf7; have Hk := Lib.hid (And.intro (hap.out true).2 (And.intro hown7 (And.intro ht7 hf7))); clear hown7 ht7 hf7)
        | (at_builtin; refine wpList_append_c rfl _ _ rfl w.heap.size u6 acc ⟨t4, t5, (x.toNat : Int) == 1⟩ rfl (hap.out ((x.toNat : Int) == 1)).1 (by simp; omega) hll (w5.heap.size + 1) 1 rfl (by first | (go_simp; done) | (go_simp; rfl) | rfl) (by first | (go_simp; done) | (go_simp; rfl) | rfl) (by first | (go_simp; done) | (go_simp; rfl) | rfl) ?_; intro v7 w7 hown7 ht7 hf7; have Hk := Lib.hid (And.intro (hap.out ((x.toNat : Int) == 1)).2 (And.intro hown7 (And.intro ht7 hf7))); clear hown7 ht7 hf7))
      --@c2
      all_goals have hbad : (o5 = false ∨ 1 < x.toNat ∨ (x = 1 ∧ t5 ≠ [])) → parseL (x :: q).length (x :: q) = none := fun hc => parse_bad x q (by rw [Hhd.out, if_pos hc])
      all_goals have herr : (o5 = false ∨ 1 < x.toNat ∨ (x = 1 ∧ t5 ≠ [])) → parseL s.length s = none := fun hc => (by rw [HB.out.1, hbad hc]; rfl)
      all_goals have hok : ¬ (o5 = false ∨ 1 < x.toNat ∨ (x = 1 ∧ t5 ≠ [])) → parseL s.length s = (parseL s5.length s5).map ((acc ++ [⟨t4, t5, x == 1⟩]) ++ ·) ∧ s5.length < (x :: q).length := fun hc => parse_on x q hc Hhd.out HB.out.1
      · have hx1 : (x.toNat : Int) = 1 := by assumption
        have hxe : x = 1 := UInt8.toNat_inj.1 (show x.toNat = 1 by omega)
        have ht5 : t5 ≠ [] := by
          have h0 : (!(textQ t5).toList.isEmpty) = true := by assumption
          rw [text_list] at h0
          simpa using h0
        have hn := herr (.inr (.inr ⟨hxe, ht5⟩))
        have hn2 := hbad (.inr (.inr ⟨hxe, ht5⟩))
        clear herr hok
        go_ret2
        first
          | exact ⟨_, 2, rfl, hb5h.out.alloc hbz5 _, .inl ⟨hn, rfl, rfl⟩⟩
          | exact ⟨_, 2, rfl, hb5h.out.alloc hbz5 _, .inl ⟨hn2, rfl, rfl⟩⟩
      · have ho : o5 = true := by assumption
        obtain ⟨hp, hgone, hne⟩ := HB.out
        obtain ⟨⟨hbw, hbx, hby⟩, hown7, ht7, hf7⟩ := Hk.out
        have hx1 : (x.toNat : Int) = 1 := by assumption
        have hxe : x = 1 := UInt8.toNat_inj.1 (show x.toNat = 1 by omega)
        have hflag : true = (x == 1) := by rw [hxe]; rfl
        have ht5 : t5 = [] := by
          have h0 : (!(textQ t5).toList.isEmpty) = false := by assumption
          rw [text_list] at h0
          simpa using h0
        have hcnd : ¬ (o5 = false ∨ 1 < x.toNat ∨ x = 1 ∧ t5 ≠ []) := by
          rintro (h | h | ⟨_, h⟩)
          · rw [ho] at h; cases h
          · omega
          · exact h ht5
        obtain ⟨hq, hless⟩ := hok hcnd
        refine ⟨⟨s5, acc ++ [⟨t4, t5, x == 1⟩], Lib.hid ⟨ht7.heap hbx fun e => hne _ e (.inl rfl), ?_, ?_, hbw.trans (ht7.below hbw.size fun b e => (row_block (hap.out true).1 e).1), hq⟩, ?_⟩, ?_⟩
        · rw [← ho]
          exact ht7.heap hby fun e => hne _ e (.inr rfl)
        · rw [← hflag]
          exact hown7
        · rw [List.length_append, List.length_cons, List.length_nil]
          rw [List.length_cons] at hlen hless
          omega
        · rw [Boxed.cell (ht7.heap hbx fun e => hne _ e (.inl rfl)), H.out.1.cell]
          exact hless
      · have ho : o5 = true := by assumption
        obtain ⟨hp, hgone, hne⟩ := HB.out
        obtain ⟨⟨hbw, hbx, hby⟩, hown7, ht7, hf7⟩ := Hk.out
        have hx1 : ¬ (x.toNat : Int) = 1 := by assumption
        have hxl : (x.toNat : Int) ≤ 1 := by assumption
        have hflag := hgone
        have hcnd : ¬ (o5 = false ∨ 1 < x.toNat ∨ x = 1 ∧ t5 ≠ []) := by
          rintro (h | h | ⟨h, _⟩)
          · rw [ho] at h; cases h
          · omega
          · rw [h] at hx1; exact hx1 rfl
        obtain ⟨hq, hless⟩ := hok hcnd
        refine ⟨⟨s5, acc ++ [⟨t4, t5, x == 1⟩], Lib.hid ⟨ht7.heap hbx fun e => hne _ e (.inl rfl), ?_, ?_, hbw.trans (ht7.below hbw.size fun b e => (row_block (hap.out ((x.toNat : Int) == 1)).1 e).1), hq⟩, ?_⟩, ?_⟩
        · rw [← ho]
          exact ht7.heap hby fun e => hne _ e (.inr rfl)
        · rw [← hflag]
          exact hown7
        · rw [List.length_append, List.length_cons, List.length_nil]
          rw [List.length_cons] at hlen hless
          omega
        · rw [Boxed.cell (ht7.heap hbx fun e => hne _ e (.inl rfl)), H.out.1.cell]
          exact hless
      · have hx1 : 1 < (x.toNat : Int) := by assumption
        have hn := herr (.inr (.inl (by omega)))
        have hn2 := hbad (.inr (.inl (by omega)))
        clear herr hok
        go_ret2
        first
          | exact ⟨_, 2, rfl, hb5h.out.alloc hbz5 _, .inl ⟨hn, rfl, rfl⟩⟩
          | exact ⟨_, 2, rfl, hb5h.out.alloc hbz5 _, .inl ⟨hn2, rfl, rfl⟩⟩
      · have ho : ¬ o5 = true := by assumption
        have hn := herr (.inl (by simpa using ho))
        have hn2 := hbad (.inl (by simpa using ho))
        clear herr hok
        go_ret2
        first
          | exact ⟨_, 2, rfl, hb5h.out.alloc hbz5 _, .inl ⟨hn, rfl, rfl⟩⟩
          | exact ⟨_, 2, rfl, hb5h.out.alloc hbz5 _, .inl ⟨hn2, rfl, rfl⟩⟩
end Go.Proofs.YtcjmpkfcjcoobaaGreat
namespace Go.Proofs.YtcjmpkfcjcoobaaGreat
open Go.RowKit Go.Maps

theorem val2_le (a b : UInt8) : val2 a b ≤ 65535 := by
  have := a.toNat_lt
  have := b.toNat_lt
  unfold val2
  omega
theorem head_fits {s r : List UInt8} {c : Ch} (h : headL s = some (c, r)) : c.fits := by
  unfold headL at h
  split at h
  · split at h
    · cases h
    · simp only [Option.some.injEq, Prod.mk.injEq] at h
      rw [← h.1]
      refine ⟨?_, ?_⟩
      · simp only [List.length_take]
        exact Nat.le_trans (Nat.min_le_left _ _) (val2_le _ _)
      · simp only [List.length_take]
        exact Nat.le_trans (Nat.min_le_left _ _) (val2_le _ _)
  · cases h
theorem parse_fits : ∀ (f : Nat) (s : List UInt8) {l : List Ch}, parseL f s = some l → ∀ c ∈ l, c.fits
  | _, [], l, h => by
    rw [show parseL _ ([] : List UInt8) = some [] by simp [parseL]] at h
    cases h
    intro c hc
    cases hc
  | 0, _ :: _, l, h => by cases h
  | f + 1, b :: s, l, h => by
    rw [parseL] at h
    cases hh : headL (b :: s) with
    | none => rw [hh] at h; cases h
    | some cr =>
      obtain ⟨c, r⟩ := cr
      rw [hh] at h
      simp only at h
      obtain ⟨l2, h2, h3⟩ := Option.map_eq_some_iff.1 h
      intro c2 hc2
      rw [← h3] at hc2
      rcases List.mem_cons.1 hc2 with rfl | hc2
      · exact head_fits hh
      · exact parse_fits f r h2 c2 hc2
end Go.Proofs.YtcjmpkfcjcoobaaGreat
namespace Go.Proofs.YtcjmpkfcjcoobaaGreat
open Go.RowKit Go.Maps

set_option maxRecDepth 100000 in
set_option maxHeartbeats 2000000 in
theorem told_any (a k : Nat) (hk : k ≤ 2) (s : List UInt8) (hs : 14 ≤ s.length) (hs2 : s.length ≤ 1000000000) (w : World) (ha : w.cell? ⟨a, 0, none⟩ = some (.string (textQ s))) :
    Calls Tryz.prog 86 #[.int .i64 (k : Int), .pointer (some ⟨a, 0, none⟩)] w fun e w' => e = .returned (.int .u32 (valF 0 ((s.drop (2 + 4 * k)).take 4) : Nat)) ∧ w' = w := by
  obtain ⟨S, hS⟩ : ∃ S, textQ s = S := ⟨_, rfl⟩
  have hsz : S.size = s.length := by rw [← hS]; rfl
  have hnum := num_any (textQ ((s.drop (2 + 4 * k)).take 4)) (by show ((s.drop (2 + 4 * k)).take 4).length ≤ 8; rw [List.length_take]; omega) w
  rw [show (textQ ((s.drop (2 + 4 * k)).take 4)).data.toList = (s.drop (2 + 4 * k)).take 4 from rfl, numB_val _ (by rw [List.length_take]; omega)] at hnum
  have g1 : 2 + 4 * k ≤ S.size := by omega
  have hx : (S.extract (2 + 4 * k) s.length).extract 0 4 = textQ ((s.drop (2 + 4 * k)).take 4) := by
    rw [← hS, extract_text, List.take_of_length_le (by rw [List.length_drop]; omega), extract_text, List.drop_zero]
  rw [← hx] at hnum
  rw [hS] at ha
  have Hx := Lib.hid hx
  clear hS hx
  go_enter Tryz.func86, Tryz.ntmps86
  go_wp2_with (go_at_call 34; refine hnum.mono ?_; rintro e w' ⟨rfl, rfl⟩)
  go_ret
  exact ⟨rfl, rfl⟩
end Go.Proofs.YtcjmpkfcjcoobaaGreat
namespace Go.Proofs.YtcjmpkfcjcoobaaGreat
open Go.RowKit

def setsD (ss : List (List UInt8)) (l : List (Nat × List UInt8)) : List (List UInt8) := l.foldl (fun ss x => ss.set x.1 (fillD x.2)) ss
theorem sets_len : ∀ (l : List (Nat × List UInt8)) (ss : List (List UInt8)), (setsD ss l).length = ss.length
  | [], _ => rfl
  | x :: l, ss => by
    show (setsD (ss.set x.1 (fillD x.2)) l).length = _
    rw [sets_len l, List.length_set]
theorem check_ok {d : Dk} {p : Nat} (hd : d.down = false) (hp : p < d.ss.length) : checkD d (p : Int) = 0 := by
  unfold checkD
  rw [hd, if_neg (by decide), if_neg (by omega)]
theorem run_free : ∀ (l : List (Nat × List UInt8)) (d : Dk), d.down = false → (∀ x ∈ l, x.1 < d.ss.length ∧ x.2.length ≤ 64) → (∀ j, j < l.length → d.wr + 1 + (j : Int) - d.ah ≠ d.ca) →
    runD d l = (⟨setsD d.ss l, d.ca, d.ct, false, d.wr + l.length, d.ah⟩, 0)
  | [], d, hd, _, _ => by
    obtain ⟨ss, ca, ct, down, wr, ah⟩ := d
    simp only at hd
    subst hd
    simp [runD, setsD]
  | x :: l, d, hd, hl, hc => by
    obtain ⟨h1, h2⟩ := hl x (List.mem_cons_self ..)
    obtain ⟨e1, e2⟩ := write_miss (check_ok hd h1) h2 (by have := hc 0 (by simp); simpa using this)
    rw [Int.toNat_natCast] at e2
    rw [runD, if_pos e1, e2, run_free l ⟨d.ss.set x.1 (fillD x.2), d.ca, d.ct, d.down, d.wr + 1, d.ah⟩ hd (fun y hy => by show y.1 < (d.ss.set x.1 (fillD x.2)).length ∧ _; rw [List.length_set]; exact hl y (List.mem_cons_of_mem _ hy)) (fun j hj => by
      have := hc (j + 1) (by simp; omega)
      show d.wr + 1 + 1 + (j : Int) - d.ah ≠ d.ca
      push_cast at this
      omega)]
    have hw : d.wr + 1 + (l.length : Int) = d.wr + ((x :: l).length : Nat) := by rw [List.length_cons]; push_cast; omega
    show ((⟨setsD (d.ss.set x.1 (fillD x.2)) l, d.ca, d.ct, false, d.wr + 1 + (l.length : Int), d.ah⟩ : Dk), (0 : Int)) = _
    rw [hw]
    rfl
/-- .. the cut hits the one behind j others. -/
theorem run_cut : ∀ (l : List (Nat × List UInt8)) (d : Dk) (j : Nat) (hj : j < l.length), d.down = false → (∀ x ∈ l, x.1 < d.ss.length ∧ x.2.length ≤ 64) → d.wr + 1 + (j : Int) - d.ah = d.ca →
    runD d l = (⟨(setsD d.ss (l.take j)).set l[j].1 ((fillD l[j].2).take (tornN d.ct) ++ ((setsD d.ss (l.take j)).getD l[j].1 []).drop (tornN d.ct)), 0, 0, true, d.wr + j + 1, d.ah⟩, 6)
  | x :: l, d, 0, _, hd, hl, hc => by
    obtain ⟨h1, h2⟩ := hl x (List.mem_cons_self ..)
    obtain ⟨e1, e2⟩ := write_hit (check_ok hd h1) h2 (by simpa using hc)
    rw [Int.toNat_natCast] at e2
    rw [runD, if_neg (by rw [e1]; decide), e1, e2]
    simp [setsD]
  | x :: l, d, j + 1, hj, hd, hl, hc => by
    obtain ⟨h1, h2⟩ := hl x (List.mem_cons_self ..)
    have hj2 : j < l.length := by simpa using hj
    obtain ⟨e1, e2⟩ := write_miss (check_ok hd h1) h2 (by push_cast at hc; omega)
    rw [Int.toNat_natCast] at e2
    rw [runD, if_pos e1, e2, run_cut l ⟨d.ss.set x.1 (fillD x.2), d.ca, d.ct, d.down, d.wr + 1, d.ah⟩ j hj2 hd (fun y hy => by show y.1 < (d.ss.set x.1 (fillD x.2)).length ∧ _; rw [List.length_set]; exact hl y (List.mem_cons_of_mem _ hy)) (by
      show d.wr + 1 + 1 + (j : Int) - d.ah = d.ca
      push_cast at hc
      omega)]
    have hw : d.wr + 1 + (j : Int) + 1 = d.wr + ((j + 1 : Nat) : Int) + 1 := by push_cast; omega
    show ((⟨(setsD (d.ss.set x.1 (fillD x.2)) (l.take j)).set l[j].1 ((fillD l[j].2).take (tornN d.ct) ++ ((setsD (d.ss.set x.1 (fillD x.2)) (l.take j)).getD l[j].1 []).drop (tornN d.ct)), 0, 0, true, d.wr + 1 + (j : Int) + 1, d.ah⟩ : Dk), (6 : Int)) = _
    rw [hw]
    rfl
theorem fill_pad (x : List UInt8) : fillD x = padR 64 x := rfl
/-- Texts written from the last one on. -/
theorem sets_rev (L : List (List UInt8)) (base : Nat) (ss : List (List UInt8)) (h : base + L.length ≤ ss.length) : ∀ j, j ≤ L.length →
    setsD (wroteR ss (base + j) ((L.drop j).map (padR 64))) ((revJ L j).map fun x => (base + x.1, x.2)) = wroteR ss base (L.map (padR 64))
  | 0, _ => by simp [revJ, setsD]
  | j + 1, hj => by
    have hx : (L.drop j).map (padR 64) = padR 64 (L.getD j []) :: (L.drop (j + 1)).map (padR 64) := by
      rw [List.drop_eq_getElem_cons (by omega), List.map_cons, List.getD_eq_getElem?_getD, List.getElem?_eq_getElem (by omega)]
      rfl
    rw [revJ, List.map_cons]
    show setsD ((wroteR ss (base + (j + 1)) ((L.drop (j + 1)).map (padR 64))).set (base + j) (fillD (L.getD j []))) _ = _
    rw [fill_pad, show base + (j + 1) = base + j + 1 by omega, wroteR_set (by omega), ← hx]
    exact sets_rev L base ss h j (by omega)
/-- What a lay writes, if nothing fails. -/
theorem lay_sets (st : StP) (p : PlP) (t : List UInt8) (ss : List (List UInt8)) (h : st.fr + p.half * st.sz + p.at_ + secN t.length ≤ ss.length) :
    setsD ss (layL st p t) = wroteR (if p.at_ + secN t.length < st.sz then ss.set (st.fr + p.half * st.sz + (p.at_ + secN t.length)) emptyR else ss) (st.fr + p.half * st.sz + p.at_) (laidR sumH p.gen p.num t) := by
  have hn : (layP p t).length = secN t.length := by
    unfold layP
    rw [List.length_map, List.length_range]
  obtain ⟨s1, hs1⟩ : ∃ s1, (if p.at_ + secN t.length < st.sz then ss.set (st.fr + p.half * st.sz + (p.at_ + secN t.length)) emptyR else ss) = s1 := ⟨_, rfl⟩
  have hl1 : s1.length = ss.length := by
    rw [← hs1]
    split
    · rw [List.length_set]
    · rfl
  have h0 : setsD ss (layE st p t.length) = s1 := by
    rw [← hs1]
    unfold layE
    split
    · rfl
    · rfl
  have happ : setsD ss (layL st p t) = setsD (setsD ss (layE st p t.length)) ((revJ (layP p t) (layP p t).length).map (layA st p)) := by
    unfold layL setsD
    rw [List.foldl_append]
  have hA : layA st p = fun x => (st.fr + p.half * st.sz + p.at_ + x.1, x.2) := by
    funext x
    unfold layA
    rw [Nat.add_assoc (st.fr + p.half * st.sz)]
  have hr := sets_rev (layP p t) (st.fr + p.half * st.sz + p.at_) s1 (by rw [hn, hl1]; exact h) (layP p t).length (Nat.le_refl _)
  rw [List.drop_length, List.map_nil, wroteR_nil] at hr
  rw [happ, h0, hA, hr, hs1, laid_pieces]
  unfold layP
  rw [List.map_map]
  rfl
end Go.Proofs.YtcjmpkfcjcoobaaGreat
namespace Go.Proofs.YtcjmpkfcjcoobaaGreat
open Go.RowKit

def halfD (ss : List (List UInt8)) (k sz : Nat) : List (List UInt8) := (ss.drop k).take sz
theorem half_len {ss : List (List UInt8)} {k sz : Nat} (h : k + sz ≤ ss.length) : (halfD ss k sz).length = sz := by
  unfold halfD
  rw [List.length_take, List.length_drop]
  omega
theorem half_get {ss : List (List UInt8)} {k sz i : Nat} : (halfD ss k sz)[i]? = if i < sz then ss[k + i]? else none := by
  unfold halfD
  rw [List.getElem?_take]
  split
  · rw [List.getElem?_drop]
  · rfl
theorem wroteR_get {ss : List (List UInt8)} {k : Nat} {l : List (List UInt8)} (h : k + l.length ≤ ss.length) (i : Nat) : (wroteR ss k l)[i]? = if k ≤ i ∧ i < k + l.length then l[i - k]? else ss[i]? := by
  unfold wroteR
  have ht : (ss.take k).length = k := by rw [List.length_take]; omega
  by_cases h1 : i < k
  · rw [List.getElem?_append_left (by omega), List.getElem?_take, if_pos h1, if_neg (by omega)]
  · rw [List.getElem?_append_right (by omega), ht]
    by_cases h2 : i < k + l.length
    · rw [List.getElem?_append_left (by omega), if_pos ⟨by omega, h2⟩]
    · rw [List.getElem?_append_right (by omega), List.getElem?_drop, if_neg (by omega)]
      congr 1
      omega
/-- What is written in a half .. -/
theorem half_wrote {ss : List (List UInt8)} {k sz at_ : Nat} {l : List (List UInt8)} (h : k + sz ≤ ss.length) (hl : at_ + l.length ≤ sz) : halfD (wroteR ss (k + at_) l) k sz = wroteR (halfD ss k sz) at_ l := by
  refine List.ext_getElem? fun i => ?_
  rw [half_get, wroteR_get (by omega), wroteR_get (by rw [half_len h]; exact hl), half_get]
  by_cases h1 : i < sz
  · rw [if_pos h1, if_pos h1]
    by_cases h2 : at_ ≤ i ∧ i < at_ + l.length
    · rw [if_pos (by omega), if_pos h2]
      congr 1
      omega
    · rw [if_neg (by omega), if_neg h2]
  · rw [if_neg h1, if_neg (by omega), if_neg h1]
/-- .. leaves another one. -/
theorem half_apart {ss : List (List UInt8)} {k k2 sz at_ : Nat} {l : List (List UInt8)} (h : k + sz ≤ ss.length) (hl : at_ + l.length ≤ sz) (hk : k2 + sz ≤ k ∨ k + sz ≤ k2) : halfD (wroteR ss (k + at_) l) k2 sz = halfD ss k2 sz := by
  refine List.ext_getElem? fun i => ?_
  rw [half_get, wroteR_get (by omega), half_get]
  by_cases h1 : i < sz
  · rw [if_pos h1, if_pos h1, if_neg (by omega)]
  · rw [if_neg h1, if_neg h1]
theorem half_set {ss : List (List UInt8)} {k sz i : Nat} {x : List UInt8} (h : k + sz ≤ ss.length) (hi : i < sz) : halfD (ss.set (k + i) x) k sz = (halfD ss k sz).set i x := by
  refine List.ext_getElem? fun j => ?_
  rw [half_get, List.getElem?_set, List.getElem?_set, half_get, half_len h]
  by_cases h1 : j < sz
  · rw [if_pos h1, if_pos h1]
    by_cases h2 : i = j
    · rw [if_pos (by omega), if_pos h2, if_pos (by omega), if_pos (by omega)]
    · rw [if_neg (by omega), if_neg h2]
  · rw [if_neg h1, if_neg (by omega), if_neg h1]
theorem half_set_apart {ss : List (List UInt8)} {k k2 sz i : Nat} {x : List UInt8} (hi : i < sz) (hk : k2 + sz ≤ k ∨ k + sz ≤ k2) : halfD (ss.set (k + i) x) k2 sz = halfD ss k2 sz := by
  refine List.ext_getElem? fun j => ?_
  rw [half_get, List.getElem?_set, half_get]
  by_cases h1 : j < sz
  · rw [if_pos h1, if_pos h1, if_neg (by omega)]
  · rw [if_neg h1, if_neg h1]
/-- A lay, as a half sees it. -/
theorem lay_in_half (st : StP) (p : PlP) (t : List UInt8) (ss : List (List UInt8)) (h : st.fr + p.half * st.sz + st.sz ≤ ss.length) (hf : p.at_ + secN t.length ≤ st.sz) :
    halfD (setsD ss (layL st p t)) (st.fr + p.half * st.sz) st.sz = layR sumH (halfD ss (st.fr + p.half * st.sz) st.sz) p.at_ p.gen p.num t := by
  rw [lay_sets st p t ss (by omega)]
  unfold layR
  have hl := laid_len sumH p.gen p.num t
  rw [half_len h]
  by_cases hn : p.at_ + secN t.length < st.sz
  · rw [if_pos hn, if_pos hn, half_wrote (by rw [List.length_set]; exact h) (by rw [hl]; exact hf), half_set h hn]
  · rw [if_neg hn, if_neg hn, half_wrote h (by rw [hl]; exact hf)]
theorem lay_apart (st : StP) (p : PlP) (t : List UInt8) (ss : List (List UInt8)) (h : st.fr + p.half * st.sz + st.sz ≤ ss.length) (hf : p.at_ + secN t.length ≤ st.sz) (k2 : Nat) (hk : k2 + st.sz ≤ st.fr + p.half * st.sz ∨ st.fr + p.half * st.sz + st.sz ≤ k2) :
    halfD (setsD ss (layL st p t)) k2 st.sz = halfD ss k2 st.sz := by
  rw [lay_sets st p t ss (by omega)]
  have hl := laid_len sumH p.gen p.num t
  by_cases hn : p.at_ + secN t.length < st.sz
  · rw [if_pos hn, half_apart (by rw [List.length_set]; exact h) (by rw [hl]; exact hf) hk, half_set_apart hn hk]
  · rw [if_neg hn, half_apart h (by rw [hl]; exact hf) hk]
end Go.Proofs.YtcjmpkfcjcoobaaGreat
