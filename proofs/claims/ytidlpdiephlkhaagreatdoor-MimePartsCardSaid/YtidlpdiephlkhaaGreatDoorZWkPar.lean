/-
  MimeParts: the walk.
-/
import Derived.Test.YtidlpdiephlkhaaGreatDoorZ44
import Derived.Test.YtidlpdiephlkhaaGreatDoorZ16
import Derived.Test.YtidlpdiephlkhaaGreatDoorZ02
import Derived.Deep.RegionHeld3
namespace Go.Proofs.YtidlpdiephlkhaaGreatDoor
open Go.RowKit

def mkQ : TextH := [45, 45, 113, 32, 113]
def preQ (ts : List TextH) : TextH := ts.flatMap fun t => mkQ ++ 13 :: 10 :: (t ++ [13, 10])
theorem preq_snoc (ts : List TextH) (i : Nat) (h : i < ts.length) : preQ (ts.take (i + 1)) = preQ (ts.take i) ++ [45, 45, 113, 32, 113, 13, 10] ++ ts[i] ++ [13, 10] := by
  unfold preQ
  rw [List.take_succ_eq_append_getElem h, List.flatMap_append, List.flatMap_singleton]
  simp [mkQ]
theorem preq_div : ∀ ts : List TextH, preQ ts ++ [45, 45, 113, 32, 113, 45, 45, 13, 10] = divTextM mkQ ts
  | [] => rfl
  | t :: ts => by
    have ih := preq_div ts
    unfold divTextM
    rw [← ih]
    unfold preQ
    rw [List.flatMap_cons]
    simp
theorem preq_len : ∀ ts : List TextH, (∀ t ∈ ts, t.length ≤ 2000) → (preQ ts).length ≤ 2009 * ts.length
  | [], _ => Nat.zero_le _
  | t :: ts, h => by
    have ih := preq_len ts fun t ht => h t (List.mem_cons_of_mem _ ht)
    have := h t (List.mem_cons_self ..)
    unfold preQ at ih ⊢
    rw [List.flatMap_cons, List.length_append, List.length_cons]
    have h5 : mkQ.length = 5 := rfl
    simp only [List.length_append, List.length_cons, List.length_nil]
    omega
theorem no_mark {t : TextH} (h : ∀ j, j + 5 ≤ t.length → (t.drop j).take 5 ≠ mkQ) : ∀ u v, t ≠ u ++ mkQ ++ v := fun u v e => by
  refine h u.length ?_ ?_
  · rw [e]
    simp [mkQ]
  · rw [e, List.append_assoc, List.drop_left]
    rfl
/-- A text that is one leaf's, with no mark in it. -/
def LeafQ (t : TextH) : Prop := (parseM t).2 = 0 ∧ (parseM t).1.parts = [] ∧ (∀ u v, t ≠ u ++ mkQ ++ v) ∧ t.length ≤ 2000
/-- The three heads. -/
def HeadQ (L : TextH) : Prop := ∃ f t, LineM L f ∧ typM [f] = some t ∧ codM [f] = 0 ∧ t.1 = multiM ∧ borderM t = [113, 32, 113] ∧ L.length ≤ 60
theorem head_of {L : TextH} {f : FieldH} {t : TypeC} (h : LineM L f) (h2 : typM [f] = some t ∧ codM [f] = 0) (h3 : t.1 = multiM) (h4 : borderM t = [113, 32, 113]) (h5 : L.length ≤ 60) : HeadQ L := ⟨f, t, h, h2.1, h2.2, h3, h4, h5⟩
theorem head_parse {L : TextH} (hL : HeadQ L) {ts : List TextH} (h1 : ts ≠ []) (h15 : ts.length ≤ 15) (hg : ∀ t ∈ ts, LeafQ t) (hs : (L ++ 13 :: 10 :: 13 :: 10 :: divTextM mkQ ts).length ≤ 16384) :
    ∃ f t, parseM (L ++ 13 :: 10 :: 13 :: 10 :: divTextM mkQ ts) = (.mk [f] t [] (ts.map fun x => (parseM x).1), 0) := by
  obtain ⟨f, t, hl, ht, hc, hm, hb, _⟩ := hL
  have e : mkQ = 45 :: 45 :: borderM t := by rw [hb]; rfl
  refine ⟨f, t, ?_⟩
  rw [e] at hs ⊢
  refine tree_parts hl.h0 hl.h13 hl.len hl.goes hl.tells hl.right ht hc hm (by rw [hb]; simp) (by rw [hb]; decide) (by rw [hb]; decide) h1 h15 (fun x hx => ?_) (fun x hx => ⟨(hg x hx).1, (hg x hx).2.1⟩) hs
  rw [← e]
  exact (hg x hx).2.2.1
theorem leaves_bareQ : ∀ l : List TreeM, (∀ p ∈ l, p.parts = []) → leavessM l = l
  | [], _ => rfl
  | .mk f t b k :: l, h => by
    have hk : k = [] := h _ (List.mem_cons_self ..)
    subst hk
    show leavesM (.mk f t b []) ++ leavessM l = _
    rw [leaves_bareQ l fun p hp => h p (List.mem_cons_of_mem _ hp)]
    rfl
/-- What lies there between two texts. -/
structure ParK (w : World) (B0 : Nat) (v : Value) (acc : List KidM) (W : World) : Prop where
  b : Below w.heap.size w W
  b0 : w.heap.size ≤ B0 ∧ B0 ≤ W.heap.size
  own : PartsOwn W B0 v acc
  kids : KidsP W (fun g => B0 ≤ g ∧ v.ownBlock ≠ some g) acc
theorem ParK.step {w W W' : World} {B0 : Nat} {v : Value} {acc : List KidM} (h : ParK w B0 v acc W) (k : Below W.heap.size W W') : ParK w B0 v acc W' :=
  ⟨h.b.trans (k.mono h.b.size), ⟨h.b0.1, Nat.le_trans h.b0.2 k.size⟩, ⟨h.own.1, h.own.2.imp id fun ⟨g, cap, cur, h1, h2, h3, h4⟩ => ⟨g, cap, cur, h1, h2, (k.block g (heap_lt h3)).trans h3, h4⟩⟩, h.kids.to (stay_all k)⟩
theorem ParK.app {w W W' : World} {B0 : Nat} {v v' : Value} {acc : List KidM} {x : KidM} (h : ParK w B0 v acc W) (hx : TreeP W (fun g => B0 ≤ g ∧ v.ownBlock ≠ some g) x.1 x.2.1 x.2.2.1 x.2.2.2) (ho : PartsOwn W' B0 v' (acc ++ [x])) (hg : W.grownBy W' v.ownBlock) (hv : v'.ownBlock = v.ownBlock ∨ v'.ownBlock = some W.heap.size) :
    ParK w B0 v' (acc ++ [x]) W' := by
  have hk : KidsP W (fun g => B0 ≤ g ∧ v.ownBlock ≠ some g) (acc ++ [x]) := fun y hy => by
    rcases List.mem_append.1 hy with hy | hy
    · exact h.kids y hy
    · obtain rfl := List.mem_singleton.1 hy
      exact hx
  have hlt := h.own.lt
  have hbs := h.b.size
  exact ⟨h.b.grown hg hbs (fun k hk => by have := (hlt k hk).1; have := h.b0.1; omega), ⟨h.b0.1, Nat.le_trans h.b0.2 hg.size⟩, ho, kids_grown hk hg hv⟩
theorem ParK.at {w W : World} {B0 : Nat} {v : Value} {acc : List KidM} (h : ParK w B0 v acc W) : PartsAt W W.heap.size v (acc.map (·.1)) :=
  (h.own.parts (P := fun g => B0 ≤ g) (h.kids.to (stay_self fun _ hg _ => hg.1)) (fun _ h => h)).to (stay_self fun _ _ hl => hl)

set_option maxRecDepth 100000 in
set_option maxHeartbeats 16000000 in
theorem mparts_walk (A : Option Addr) (n c : Nat) (ss : List ByteArray) (sub : UInt8) (m : Int) (w : World) (hstr : Strs w w.heap.size A n c ss) (hss : ∀ s ∈ ss, s.size ≤ maxLen) (hm : w.cell? ⟨0, 0, none⟩ = some (.int .i64 m)) :
    Calls Tryz.prog 6 #[.slice A n c, .int .u8 (sub.toNat : Int)] w fun e w' => e = .returned (.bool true) ∧ Below w.heap.size w w' := by
  have haw := awake13_any m w hm
  have HM : Hid (∀ W, Below w.heap.size w W → W.cell? ⟨0, 0, none⟩ = some (.int .i64 m)) := Lib.hid fun W hW => bound_abide hm hW
  have HS : Hid (∀ W, Below w.heap.size w W → ∀ i (h : i < ss.length), ∃ b off, A = some ⟨b, off, none⟩ ∧ W.cell? ⟨b, off + i, none⟩ = some (.string ss[i])) := Lib.hid fun W hW i h => by
    have h2 := hstr.below hW
    obtain ⟨b, off, q1, _, q3⟩ := h2.at_ (k := i) (by rw [← h2.len]; exact h)
    refine ⟨b, off, q1, ?_⟩
    rw [q3 i (by rw [← h2.len]; exact h)]
    simp [h]
  have Hn := Lib.hid hstr.len
  have Hz : Hid (∀ i (h : i < ss.length), ss[i].size ≤ maxLen) := Lib.hid fun i h => hss _ (List.getElem_mem h)
  clear hstr hss hm
  go_enter Tryz.func6, Tryz.ntmps6
  go_wp2_with fail
  refine haw.mono ?_
  rintro e w1 ⟨rfl, hw1⟩
  have B1 := Lib.hid hw1
  clear haw hw1
  by_cases h1 : n < 1
  · have h1i : (n : Int) < 1 := by omega
    clear h1
    go_wp2
    go_ret
    exact ⟨rfl, B1.out⟩
  · by_cases h15 : 15 < n
    · have h1i : ¬ ((n : Int) < 1) := by omega
      have h15i : (15 : Int) < (n : Int) := by omega
      clear h1
      go_wp2
      go_ret
      exact ⟨rfl, B1.out⟩
    · have h1i : (1 : Int) ≤ (n : Int) := by omega
      have h15i : (n : Int) ≤ 15 := by omega
      obtain ⟨N, S0, L, hix, hS0, hL, hSd, hN7⟩ : ∃ (N S0 : ByteArray) (L : TextH), (∀ w : World, (Instr.index 43 (.agg #[.string ⟨#[109, 105, 120, 101, 100]⟩, .string ⟨#[114, 101, 108, 97, 116, 101, 100]⟩, .string ⟨#[120]⟩]) (.int .u8 ((sub.toNat : Int) % 3))).run Tryz.prog w = .ok (.string N) w) ∧
          (⟨#[67, 111, 110, 116, 101, 110, 116, 45, 84, 121, 112, 101, 58, 32, 109, 117, 108, 116, 105, 112, 97, 114, 116, 47]⟩ : ByteArray) ++ N ++ (⟨#[59, 32, 98, 111, 117, 110, 100, 97, 114, 121, 61, 34, 113, 32, 113, 34, 13, 10, 13, 10]⟩ : ByteArray) = S0 ∧ HeadQ L ∧ S0.data.toList = L ++ [13, 10, 13, 10] ∧ N.size ≤ 7 := by
        have h3 : (sub.toNat : Int) % 3 = 0 ∨ (sub.toNat : Int) % 3 = 1 ∨ (sub.toNat : Int) % 3 = 2 := by omega
        rcases h3 with h3 | h3 | h3
        · exact ⟨⟨#[109, 105, 120, 101, 100]⟩, _, mixedL, fun w => by rw [h3]; rfl, rfl, head_of mixed_line mixed_typ rfl (by decide +kernel) (by decide), by decide +kernel, by decide⟩
        · exact ⟨⟨#[114, 101, 108, 97, 116, 101, 100]⟩, _, relatedL, fun w => by rw [h3]; rfl, rfl, head_of related_line related_typ rfl (by decide +kernel) (by decide), by decide +kernel, by decide⟩
        · exact ⟨⟨#[120]⟩, _, xL, fun w => by rw [h3]; rfl, rfl, head_of x_line x_typ rfl (by decide +kernel) (by decide), by decide +kernel, by decide⟩
      have HL := Lib.hid (And.intro hL hSd)
      have g1 : ¬ 9223372036854775807 < 24 + N.size := by omega
      have g2 : ¬ 9223372036854775807 < 24 + N.size + 20 := by omega
      obtain ⟨ts, hts⟩ : ∃ ts : List TextH, ss.map (fun s => s.data.toList) = ts := ⟨_, rfl⟩
      have Hts : Hid (ts.length = n ∧ ∀ i (h : i < ss.length) (h2 : i < ts.length), ts[i] = ss[i].data.toList) := Lib.hid (by
        subst hts
        exact ⟨by rw [List.length_map]; exact Hn.out, fun i h h2 => by rw [List.getElem_map]⟩)
      have K1 : Hid (ParK w w1.heap.size (.slice none 0 0) [] w1) := Lib.hid ⟨B1.out, ⟨B1.out.size, Nat.le_refl _⟩, World.ownsRow_nil _ _ _ _, kids_nil _ _⟩
      have Hpre : Hid (S0.data.toList = L ++ [13, 10, 13, 10] ++ preQ (ts.take 0)) := Lib.hid (by rw [List.take_zero, HL.out.2]; exact (List.append_nil _).symm)
      clear hL hSd hts h1 h15
      go_wp2
      go_loopw [5, 6, 7, 8] (fun sv ov nv iv wr => ∃ (i : Nat) (S : ByteArray) (acc : List KidM) (ao : Option Addr) (nn cap : Nat), i ≤ n ∧ iv = .int .i64 i ∧ nv = .int .i64 ((i + 1 : Nat) : Int) ∧ sv = .string S ∧ ov = .slice ao nn cap ∧ nn = i ∧ S.size ≤ 64 + 2009 * i ∧ Hid (acc.length = i ∧ acc.map (·.1) = (ts.take i).map (fun x => (parseM x).1)) ∧ Hid (S.data.toList = L ++ [13, 10, 13, 10] ++ preQ (ts.take i)) ∧ Hid (∀ t ∈ ts.take i, LeafQ t) ∧ Hid (ParK w w1.heap.size (.slice ao nn cap) acc wr)) (fun _ _ _ iv _ => n - (intOf iv).toNat)
      case atStart => exact ⟨0, S0, [], none, 0, 0, by omega, rfl, rfl, rfl, rfl, rfl, by
        have e : S0.size = S0.data.toList.length := rfl
        obtain ⟨_, _, _, _, _, _, _, h60⟩ := HL.out.1
        rw [e, HL.out.2, List.length_append]
        simp only [List.length_cons, List.length_nil]
        omega, Lib.hid ⟨rfl, rfl⟩, Hpre, Lib.hid (fun t ht => by cases ht), K1⟩
      case round =>
        obtain ⟨i, S, acc, ao, nn, cap, hi, rfl, rfl, rfl, rfl, hnn, hSs, hacc, hpre, hgood, hk⟩ := hrel
        have Hnn := Lib.hid hnn
        clear hnn K1 Hpre
        by_cases hlt : i < n
        · have hil : i < ss.length := by rw [Hn.out]; exact hlt
          have hit : i < ts.length := by rw [Hts.out.1]; exact hlt
          have HT : Hid (∀ W, Below w.heap.size w W → ∃ b off, A = some ⟨b, off, none⟩ ∧ W.cell? ⟨b, off + i, none⟩ = some (.string ss[i])) := Lib.hid fun W hW => HS.out W hW i hil
          have hTm := Hz.out i hil
          have hte := Hts.out.2 i hil hit
          obtain ⟨T, hT⟩ : ∃ T, ss[i] = T := ⟨_, rfl⟩
          rw [hT] at HT hTm hte
          unfold maxLen at hTm
          obtain ⟨tb, toff, rfl, z0⟩ := HT.out wr hk.out.b
          by_cases h2k : 2000 < T.size
          · have h2i : (2000 : Int) < (T.size : Int) := by omega
            have B9 := Lib.hid hk.out.b
            clear hk hacc hpre hgood HT hte
            go_wp2
            go_ret
            exact ⟨rfl, B9.out⟩
          · have h2i : (T.size : Int) ≤ 2000 := by omega
            have Hte := Lib.hid (And.intro hte hit)
            clear hte hil hT h2k
            go_wp2
            go_loopw [9] (fun kv wx => ∃ k : Nat, k ≤ T.size ∧ kv = .int .i64 k ∧ Hid (∀ j, j < k → j + 5 ≤ T.size → (T.data.toList.drop j).take 5 ≠ mkQ) ∧ wx = wr) (fun kv _ => T.size - (intOf kv).toNat)
            case atStart => exact ⟨0, by omega, rfl, Lib.hid (fun j h => by omega), rfl⟩
            case round =>
              obtain ⟨k, hkT, rfl, hno, hwx⟩ := hrel
              obtain rfl := hwx.symm
              clear hwx
              obtain ⟨k5, hk5⟩ : ∃ k5, k + 5 = k5 := ⟨_, rfl⟩
              have hwk5 : IntKind.i64.wrap ((k : Int) + 5) = (k5 : Int) := by rw [IntWalk.i64_in _ (by omega)]; omega
              by_cases hle : k5 ≤ T.size
              · have hlei : (k5 : Int) ≤ (T.size : Int) := by omega
                have hkk : k ≤ k5 := by omega
                have hex : ((T.extract k k5).toList == [45, 45, 113, 32, 113]) = ((T.data.toList.drop k).take 5 == [45, 45, 113, 32, 113]) := by
                  rw [Lib.toList_data, cut_text, show k5 - k = 5 by omega]
                  rfl
                cases hb : ((T.data.toList.drop k).take 5 == [45, 45, 113, 32, 113]) with
                | true =>
                  rw [hb] at hex
                  have B9 := Lib.hid hk.out.b
                  clear hk hacc hpre hgood HT Hte hno hb hk5
                  go_wp2
                  go_ret
                  exact ⟨rfl, B9.out⟩
                | false =>
                  rw [hb] at hex
                  have Hno := Lib.hid (show ∀ j, j < k + 1 → j + 5 ≤ T.size → (T.data.toList.drop j).take 5 ≠ mkQ from fun j hj h5 => by
                    rcases Nat.lt_or_ge j k with h4 | h4
                    · exact hno.out j h4 h5
                    · obtain rfl : j = k := by omega
                      exact beq_eq_false_iff_ne.1 hb)
                  have hk1 : k + 1 ≤ T.size := by omega
                  clear hno hb hk5
                  go_wp2
                  go_roundw
                  case rel => exact ⟨k + 1, hk1, by go_num, Hno, (by first | rfl | trivial)⟩
                  case measure => simp [intOf]; omega
              · have hlei : (T.size : Int) < (k5 : Int) := by omega
                have hnm : Hid (∀ u v, T.data.toList ≠ u ++ mkQ ++ v) := Lib.hid (no_mark fun j hj => hno.out j (by have e : T.data.toList.length = T.size := rfl; omega) (by have e : T.data.toList.length = T.size := rfl; omega))
                have hp0 := mparse_any T m wr (by omega) (HM.out wr hk.out.b)
                obtain ⟨⟨q, er⟩, hr⟩ : ∃ r, parseM T.data.toList = r := ⟨_, rfl⟩
                unfold ParsePostM at hp0
                rw [hr] at hp0
                obtain ⟨QX, hQX⟩ : ∃ X, textQ q.typ.1 = X := ⟨_, rfl⟩
                obtain ⟨QY, hQY⟩ : ∃ Y, textQ q.typ.2.1 = Y := ⟨_, rfl⟩
                obtain ⟨QD, hQD⟩ : ∃ D, textQ q.body = D := ⟨_, rfl⟩
                have hp : Calls Tryz.prog 11 #[.string T] wr fun e w' => ∃ a5 n5 q5 a6 n6 q6 a7 q7, e = .returned (.tuple #[.agg #[.slice a5 n5 q5, .string QX, .string QY, .slice a6 n6 q6, .string QD, .slice a7 q.parts.length q7], .int .i64 er]) ∧ Hid (TreeP w' (fun g => wr.heap.size ≤ g) q (.slice a5 n5 q5) (.slice a6 n6 q6) (.slice a7 q.parts.length q7) ∧ Below wr.heap.size wr w') := hp0.mono fun e w' ⟨fv, pv, rv, h1, h2, h3⟩ => by
                  obtain ⟨⟨a1, n1, c1, rfl⟩, ⟨a2, n2, c2, rfl⟩, _⟩ := h2.slices
                  obtain ⟨a3, c3, rfl, _⟩ := h2.r.slice
                  exact ⟨a1, n1, c1, a2, n2, c2, a3, c3, by rw [h1, ← hQX, ← hQY, ← hQD]; rfl, Lib.hid ⟨h2, h3⟩⟩
                have HQ := Lib.hid (And.intro hQX (And.intro hQY hQD))
                have HR := Lib.hid hr
                obtain ⟨np, hnp⟩ : ∃ np, q.parts.length = np := ⟨_, rfl⟩
                rw [hnp] at hp
                have Hnp := Lib.hid hnp
                clear hp0 hQX hQY hQD hr hnp hno hle hk5
                go_wp2_with fail
                refine hp.mono ?_
                rintro e w5 ⟨a5, n5, q5, a6, n6, q6, a7, q7, rfl, hx⟩
                obtain ⟨w6, hw6⟩ : ∃ W, w5.alloc (.cells #[.slice a5 n5 q5, .string QX, .string QY, .slice a6 n6 q6, .string QD, .slice a7 np q7] 29) = W := ⟨_, rfl⟩
                have l6 : Below w5.heap.size w5 w6 := by rw [← hw6]; exact (Below.refl _ _).alloc (Nat.le_refl _) _
                have p6 : PrtAt w6 w5.heap.size (.slice a5 n5 q5) (.string QX) (.string QY) (.slice a6 n6 q6) (.string QD) (.slice a7 np q7) := by rw [← hw6]; exact prt_new w5 _ _ _ _ _ _
                have K6 := Lib.hid ((hk.out.step hx.out.2).step l6)
                have X6 := Lib.hid (And.intro (hx.out.1.to (stay_all l6)) p6)
                have Hown : Hid (∀ g, (Value.slice ao nn cap).ownBlock = some g → g < wr.heap.size) := Lib.hid fun g h => (hk.out.own.lt g h).2
                obtain ⟨g0, g1', g2', g3, g4, g5, -⟩ := p6.cells
                have hzz : wr.heap.size ≤ w5.heap.size := hx.out.2.size
                have Hzz := Lib.hid (And.intro hk.out.b0 hzz)
                clear hp hx l6 p6 hk hzz
                by_cases he : er = 0
                · subst he
                  by_cases hp0 : np = 0
                  · subst hp0
                    have hq0 : q.parts = [] := List.eq_nil_of_length_eq_zero Hnp.out
                    obtain ⟨S2, hS2⟩ : ∃ S2 : ByteArray, S ++ (⟨#[45, 45, 113, 32, 113, 13, 10]⟩ : ByteArray) ++ T ++ (⟨#[13, 10]⟩ : ByteArray) = S2 := ⟨_, rfl⟩
                    have hS2s : S2.size ≤ 64 + 2009 * (i + 1) := by
                      rw [← hS2, ByteArray.size_append, ByteArray.size_append, ByteArray.size_append]
                      show S.size + 7 + T.size + 2 ≤ _
                      omega
                    have HS2 : Hid (S2.data.toList = L ++ [13, 10, 13, 10] ++ preQ (ts.take (i + 1))) := Lib.hid (by
                      rw [preq_snoc ts i Hte.out.2, Hte.out.1, ← hS2, ByteArray.data_append, ByteArray.data_append, ByteArray.data_append, Array.toList_append, Array.toList_append, Array.toList_append, hpre.out]
                      simp)
                    have Hgood : Hid (∀ t ∈ ts.take (i + 1), LeafQ t) := Lib.hid fun t ht => by
                      rw [List.take_succ_eq_append_getElem Hte.out.2] at ht
                      rcases List.mem_append.1 ht with ht | ht
                      · exact hgood.out t ht
                      · obtain rfl := List.mem_singleton.1 ht
                        rw [Hte.out.1]
                        refine ⟨by rw [HR.out], by rw [HR.out]; exact hq0, hnm.out, ?_⟩
                        show T.size ≤ 2000
                        omega
                    have Hacc : Hid ((acc ++ [(q, Value.slice a5 n5 q5, Value.slice a6 n6 q6, Value.slice a7 0 q7)]).length = i + 1 ∧ (acc ++ [(q, Value.slice a5 n5 q5, Value.slice a6 n6 q6, Value.slice a7 0 q7)]).map (·.1) = (ts.take (i + 1)).map (fun x => (parseM x).1)) := Lib.hid (by
                      refine ⟨by rw [List.length_append, hacc.out.1]; rfl, ?_⟩
                      rw [List.map_append, hacc.out.2, List.take_succ_eq_append_getElem Hte.out.2, List.map_append, Hte.out.1]
                      congr 1
                      show [q] = [(parseM T.data.toList).1]
                      rw [HR.out])
                    have hb7 : ¬ 9223372036854775807 < S.size + 7 := by omega
                    have hb8 : ¬ 9223372036854775807 < S.size + 7 + T.size := by omega
                    have hb9 : ¬ 9223372036854775807 < S.size + 7 + T.size + 2 := by omega
                    have Hal : Hid (acc.length ≤ 1000000) := Lib.hid (by have := hacc.out.1; omega)
                    have HS2s := Lib.hid hS2s
                    clear hacc hpre hgood hnm hq0 hS2s
                    go_wp2_with (at_builtin; refine HeldW.of ?_)
                    unfold HeldW
                    obtain ⟨w7, hw7⟩ : ∃ W, w6.alloc (.cells #[.slice a5 n5 q5, .string QX, .string QY, .slice a6 n6 q6, .string QD, .slice a7 0 q7] 29) = W := ⟨_, rfl⟩
                    have l7 : Below w6.heap.size w6 w7 := by rw [← hw7]; exact (Below.refl _ _).alloc (Nat.le_refl _) _
                    have p7 : PrtAt w7 w6.heap.size (.slice a5 n5 q5) (.string QX) (.string QY) (.slice a6 n6 q6) (.string QD) (.slice a7 0 q7) := by rw [← hw7]; exact prt_new w6 _ _ _ _ _ _
                    have K7 := Lib.hid (K6.out.step l7)
                    have hx7 : TreeP w7 (fun g => w1.heap.size ≤ g ∧ (Value.slice ao nn cap).ownBlock ≠ some g) q (.slice a5 n5 q5) (.slice a6 n6 q6) (.slice a7 0 q7) := (X6.out.1.to (stay_all l7)).to (stay_self fun g hg _ => ⟨by have := Hzz.out.1.2; omega, fun e => by have := Hown.out g e; omega⟩)
                    have hkid := prt_kid p7 HQ.out.1 HQ.out.2.1 HQ.out.2.2
                    rw [hw7]
                    refine append_part rfl _ _ rfl w1.heap.size (.slice ao nn cap) acc (q, .slice a5 n5 q5, .slice a6 n6 q6, .slice a7 0 q7) rfl K7.out.own K7.out.b0.2 Hal.out w6.heap.size 1 rfl hkid rfl rfl rfl ?_
                    intro v' w8 ho hg8 hv
                    obtain ⟨ao', cap', rfl⟩ := row_slice ho
                    have K8 := Lib.hid (K7.out.app hx7 ho hg8 hv)
                    rw [Hacc.out.1] at K8 ⊢
                    obtain ⟨tb', toff', e', z8⟩ := HT.out w8 K8.out.b
                    cases e'
                    clear K6 X6 K7 hx7 hkid p7 l7 ho hg8 hv hw7 hw6 g0 g1' g2' g3 g4 g5 z0
                    go_wp2
                    go_roundw
                    case rel => exact ⟨i + 1, S2, acc ++ [(q, Value.slice a5 n5 q5, Value.slice a6 n6 q6, Value.slice a7 0 q7)], ao', i + 1, cap', by omega, by go_num, by go_num, rfl, rfl, rfl, HS2s.out, Hacc, HS2, Hgood, K8⟩
                    case measure => simp [intOf]; omega
                  · have hnpi : (0 : Int) < (np : Int) := by omega
                    clear hp0
                    go_wp2
                    go_ret
                    exact ⟨rfl, K6.out.b⟩
                · have hei : ((er : Int) != 0) = true := by simpa using he
                  go_wp2
                  go_ret
                  exact ⟨rfl, K6.out.b⟩
        · obtain rfl : i = n := by omega
          have htk : ts.take i = ts := List.take_of_length_le (by rw [Hts.out.1]; exact Nat.le_refl _)
          rw [htk] at hacc hpre hgood
          obtain ⟨F, hF⟩ : ∃ F : ByteArray, S ++ (⟨#[45, 45, 113, 32, 113, 45, 45, 13, 10]⟩ : ByteArray) = F := ⟨_, rfl⟩
          have hFs : F.size = S.size + 9 := by rw [← hF, ByteArray.size_append]; rfl
          have hFd : F.data.toList = L ++ 13 :: 10 :: 13 :: 10 :: divTextM mkQ ts := by
            rw [← hF, ByteArray.data_append, Array.toList_append, hpre.out, ← preq_div]
            simp
          have hb9 : ¬ 9223372036854775807 < S.size + 9 := by omega
          have hp0 := mparse_any F m wr (by omega) (HM.out wr hk.out.b)
          obtain ⟨⟨q, er⟩, hr⟩ : ∃ r, parseM F.data.toList = r := ⟨_, rfl⟩
          have Hres : Hid (S.size ≤ 16000 → er = 0 ∧ q.parts = ts.map (fun x => (parseM x).1) ∧ countM q = i + 1 ∧ leavesM q = ts.map (fun x => (parseM x).1) ∧ ∀ x ∈ nodesM q, OkP x) := Lib.hid fun h16 => by
            obtain ⟨f, t, hpp⟩ := head_parse HL.out.1 (ts := ts) (fun e => by have := Hts.out.1; rw [e] at this; simp at this; omega) (by rw [Hts.out.1]; omega) hgood.out (by rw [← hFd]; show F.size ≤ _; omega)
            rw [← hFd, hr] at hpp
            obtain ⟨e1, e2⟩ := Prod.mk.inj hpp
            have hbare : ∀ p ∈ ts.map (fun x => (parseM x).1), p.parts = [] := fun p hp => by
              obtain ⟨x, hx, rfl⟩ := List.mem_map.1 hp
              exact (hgood.out x hx).2.1
            have hok := tree_ok (s := F.data.toList) (p := q) (by rw [hr, e2])
            have hne : ts.map (fun x => (parseM x).1) ≠ [] := fun e => by
              have := congrArg List.length e
              rw [List.length_map, Hts.out.1] at this
              simp at this
              omega
            refine ⟨e2, by rw [e1]; rfl, ?_, ?_, hok⟩
            · rw [e1]
              show 1 + countsM _ = _
              rw [counts_leaves _ hbare, List.length_map, Hts.out.1]
              omega
            · rw [e1]
              unfold leavesM
              rw [if_neg (by simpa using hne)]
              exact leaves_bareQ _ hbare
          unfold ParsePostM at hp0
          rw [hr] at hp0
          obtain ⟨QX, hQX⟩ : ∃ X, textQ q.typ.1 = X := ⟨_, rfl⟩
          obtain ⟨QY, hQY⟩ : ∃ Y, textQ q.typ.2.1 = Y := ⟨_, rfl⟩
          obtain ⟨QD, hQD⟩ : ∃ D, textQ q.body = D := ⟨_, rfl⟩
          obtain ⟨np, hnp⟩ : ∃ np, q.parts.length = np := ⟨_, rfl⟩
          have hp : Calls Tryz.prog 11 #[.string F] wr fun e w' => ∃ a5 n5 q5 a6 n6 q6 a7 q7, e = .returned (.tuple #[.agg #[.slice a5 n5 q5, .string QX, .string QY, .slice a6 n6 q6, .string QD, .slice a7 np q7], .int .i64 er]) ∧ Hid (TreeAt w' w'.heap.size q (.slice a5 n5 q5) (.slice a6 n6 q6) (.slice a7 np q7) ∧ Below wr.heap.size wr w') := hp0.mono fun e w' ⟨fv, pv, rv, h1, h2, h3⟩ => by
            obtain ⟨⟨a1, n1, c1, rfl⟩, ⟨a2, n2, c2, rfl⟩, _⟩ := h2.slices
            obtain ⟨a3, c3, rfl, _⟩ := h2.r.slice
            rw [hnp] at h1 h2
            exact ⟨a1, n1, c1, a2, n2, c2, a3, c3, by rw [h1, ← hQX, ← hQY, ← hQD]; rfl, Lib.hid ⟨h2.at, h3⟩⟩
          have hcnt : Hid (∀ W a1 n1 c1 a2 n2 c2 a3 n3 c3, countM q ≤ 1000000 → TreeAt W W.heap.size q (.slice a1 n1 c1) (.slice a2 n2 c2) (.slice a3 n3 c3) → Calls Tryz.prog 17 #[.agg #[.slice a1 n1 c1, .string QX, .string QY, .slice a2 n2 c2, .string QD, .slice a3 n3 c3]] W fun e w' => e = .returned (.int .i64 (countM q)) ∧ Below W.heap.size W w') := Lib.hid fun W a1 n1 c1 a2 n2 c2 a3 n3 c3 hc ht => by
            have := mcount_any W.heap.size q _ _ _ W ht (Nat.le_refl _) hc
            unfold partV at this
            rw [hQX, hQY, hQD] at this
            exact this
          have hlv : Hid (∀ W a1 n1 c1 a2 n2 c2 a3 n3 c3, countM q ≤ 1000000 → (∀ x ∈ nodesM q, OkP x) → TreeAt W W.heap.size q (.slice a1 n1 c1) (.slice a2 n2 c2) (.slice a3 n3 c3) → Calls Tryz.prog 15 #[.agg #[.slice a1 n1 c1, .string QX, .string QY, .slice a2 n2 c2, .string QD, .slice a3 n3 c3]] W fun e w' => (∃ ao cap, e = .returned (.slice ao (leavesM q).length cap)) ∧ Below W.heap.size W w') := Lib.hid fun W a1 n1 c1 a2 n2 c2 a3 n3 c3 hc hok ht => by
            have := mleaves_any W.heap.size q _ _ _ W ht (Nat.le_refl _) hc hok
            unfold partV at this
            rw [hQX, hQY, hQD] at this
            refine this.mono ?_
            rintro e w' ⟨v, rfl, hv, hb⟩
            obtain ⟨ao, cap, rfl, _⟩ := hv.slice
            exact ⟨⟨ao, cap, rfl⟩, hb⟩
          have Hnp := Lib.hid hnp
          clear hp0 hr hQX hQY hQD hnp hFs hFd hpre hgood htk
          go_wp2_with fail
          refine hp.mono ?_
          rintro e w5 ⟨a5, n5, q5, a6, n6, q6, a7, q7, rfl, hx⟩
          obtain ⟨w6, hw6⟩ : ∃ W, w5.alloc (.cells #[.slice a5 n5 q5, .string QX, .string QY, .slice a6 n6 q6, .string QD, .slice a7 np q7] 29) = W := ⟨_, rfl⟩
          have l6 : Below w5.heap.size w5 w6 := by rw [← hw6]; exact (Below.refl _ _).alloc (Nat.le_refl _) _
          have p6 : PrtAt w6 w5.heap.size (.slice a5 n5 q5) (.string QX) (.string QY) (.slice a6 n6 q6) (.string QD) (.slice a7 np q7) := by rw [← hw6]; exact prt_new w5 _ _ _ _ _ _
          have K6 : Hid (ParK w w1.heap.size (.slice ao nn cap) acc w6 ∧ PrtAt w6 w5.heap.size (.slice a5 n5 q5) (.string QX) (.string QY) (.slice a6 n6 q6) (.string QD) (.slice a7 np q7) ∧ TreeAt w6 w6.heap.size q (.slice a5 n5 q5) (.slice a6 n6 q6) (.slice a7 np q7)) := Lib.hid ⟨(hk.out.step hx.out.2).step l6, p6, (hx.out.1.below l6 (Nat.le_refl _)).up l6.size⟩
          have step : Hid (∀ W W', (ParK w w1.heap.size (.slice ao nn cap) acc W ∧ PrtAt W w5.heap.size (.slice a5 n5 q5) (.string QX) (.string QY) (.slice a6 n6 q6) (.string QD) (.slice a7 np q7) ∧ TreeAt W W.heap.size q (.slice a5 n5 q5) (.slice a6 n6 q6) (.slice a7 np q7)) → Below W.heap.size W W' → (ParK w w1.heap.size (.slice ao nn cap) acc W' ∧ PrtAt W' w5.heap.size (.slice a5 n5 q5) (.string QX) (.string QY) (.slice a6 n6 q6) (.string QD) (.slice a7 np q7) ∧ TreeAt W' W'.heap.size q (.slice a5 n5 q5) (.slice a6 n6 q6) (.slice a7 np q7))) := Lib.hid fun W W' ⟨h1, h2, h3⟩ hb => ⟨h1.step hb, h2.below hb, (h3.below hb (Nat.le_refl _)).up hb.size⟩
          obtain ⟨g0, g1', g2', g3, g4, g5, -⟩ := p6.cells
          clear hp hx l6 p6 hk
          by_cases h16 : 16000 < S.size
          · have h16i : (16000 : Int) < (S.size : Int) := by omega
            clear h16
            go_wp2
            go_ret
            exact ⟨rfl, K6.out.1.b⟩
          · have h16i : (S.size : Int) ≤ 16000 := by omega
            obtain ⟨rfl, r2, r3, r4, r5⟩ := Hres.out (by omega)
            have hnpi : np = i := by rw [← Hnp.out, r2, List.length_map, Hts.out.1]
            subst hnpi
            have h7 := hcnt.out w6 _ _ _ _ _ _ _ _ _ (by rw [r3]; omega) K6.out.2.2
            rw [r3] at h7
            have hlv2 : Hid (∀ W, TreeAt W W.heap.size q (.slice a5 n5 q5) (.slice a6 n6 q6) (.slice a7 np q7) → Calls Tryz.prog 15 #[.agg #[.slice a5 n5 q5, .string QX, .string QY, .slice a6 n6 q6, .string QD, .slice a7 np q7]] W fun e w' => (∃ ao cap, e = .returned (.slice ao np cap)) ∧ Below W.heap.size W w') := Lib.hid fun W ht => by
              have := hlv.out W _ _ _ _ _ _ _ _ _ (by rw [r3]; omega) r5 ht
              rw [r4, List.length_map, Hts.out.1] at this
              exact this
            have HPS := Lib.hid (And.intro r2 hacc.out)
            have hnn2 := Hnn.out
            clear hcnt hlv Hres r2 r3 r4 r5 h16 hacc
            subst hnn2
            go_wp2_with fail
            refine h7.mono ?_
            rintro e w7 ⟨rfl, hb⟩
            have K7 := Lib.hid (step.out _ _ K6.out hb)
            obtain ⟨g0, g1', g2', g3, g4, g5, -⟩ := K7.out.2.1.cells
            have h8 := hlv2.out w7 K7.out.2.2
            clear h7 hb K6 hlv2 hw6
            go_wp2_with fail
            refine h8.mono ?_
            rintro e w8 ⟨⟨lo, lcap, rfl⟩, hb⟩
            have PA : Hid (PartsAt w8 w8.heap.size (.slice a7 nn q7) (ts.map fun x => (parseM x).1) ∧ PartsAt w8 w8.heap.size (.slice ao nn cap) (ts.map fun x => (parseM x).1)) := Lib.hid (by
              obtain ⟨k1, k2, k3⟩ := step.out _ _ K7.out hb
              refine ⟨?_, ?_⟩
              · rw [← HPS.out.1]
                exact k3.r
              · rw [← HPS.out.2.2]
                exact k1.at)
            have K8 := Lib.hid (And.intro (step.out _ _ K7.out hb).1.b (step.out _ _ K7.out hb).2.1)
            have b88 := Lib.hid (Below.refl w8.heap.size w8)
            clear h8 hb K7 step g0 g1' g2' g3 g4 g5
            obtain ⟨PS, hPS⟩ : ∃ PS, ts.map (fun x => (parseM x).1) = PS := ⟨_, rfl⟩
            have HPl : Hid (PS.length = nn) := Lib.hid (by rw [← hPS, List.length_map, Hts.out.1])
            rw [hPS] at PA
            clear hPS
            go_wp2
            go_loopw [14] (fun jv wr => ∃ j : Nat, j ≤ nn ∧ jv = .int .i64 j ∧ Hid (Below w8.heap.size w8 wr)) (fun jv _ => nn - (intOf jv).toNat)
            case atStart => exact ⟨0, by omega, rfl, b88⟩
            case round =>
              obtain ⟨j, hj, rfl, hbr⟩ := hrel
              by_cases hjl : j < nn
              · have hjP : j < PS.length := by rw [HPl.out]; exact hjl
                have Hc : Hid (∀ W, Below w8.heap.size w8 W → W.cell? ⟨w5.heap.size, 5, none⟩ = some (.slice a7 nn q7) ∧ TreeAt W w8.heap.size (.mk [] ([], [], []) [] PS) (.slice none 0 0) (.slice none 0 0) (.slice a7 nn q7) ∧ TreeAt W w8.heap.size (.mk [] ([], [], []) [] PS) (.slice none 0 0) (.slice none 0 0) (.slice ao nn cap)) := Lib.hid fun W hW => by
                  refine ⟨(K8.out.2.below hW).cells.2.2.2.2.2.1, ⟨FieldsP.nil _ _, ParsP.nil _ _, PA.out.1.to (stay_below hW (Nat.le_refl _))⟩, ⟨FieldsP.nil _ _, ParsP.nil _ _, PA.out.2.to (stay_below hW (Nat.le_refl _))⟩⟩
                obtain ⟨y5, hT1, hT2⟩ := Hc.out wr hbr.out
                obtain ⟨ga, oa, b1, m1, d1, b2, m2, d2, b3, m3, d3, rfl, hga, x0, x1, x2, x3, x4, x5, hk1⟩ := hT1.kid j hjP
                obtain ⟨gb, ob, b4, m4, d4, b5, m5, d5, b6, m6, d6, rfl, hgb, y0, y1, y2, y3, y4, y6, hk2⟩ := hT2.kid j hjP
                obtain ⟨p, hp⟩ : ∃ p, PS[j] = p := ⟨_, rfl⟩
                have hPj : (TreeM.parts (.mk [] ([], [], []) [] PS))[j]'hjP = p := hp
                rw [hPj] at x1 x2 x4 y1 y2 y4 hk1 hk2
                have hsame : Hid (∀ W, Below wr.heap.size wr W → Calls Tryz.prog 19 #[partV p (.slice b1 m1 d1) (.slice b2 m2 d2) (.slice b3 m3 d3), partV p (.slice b4 m4 d4) (.slice b5 m5 d5) (.slice b6 m6 d6)] W fun e w' => e = .returned (.bool true) ∧ Below W.heap.size W w') := Lib.hid fun W hW => by
                  have hz := hbr.out.size
                  have := msame_any w8.heap.size (countM p) p (Nat.le_refl _) p _ _ _ _ _ _ W (hk1.below hW hz) (hk2.below hW hz) (by have := hW.size; omega)
                  rw [decide_eq_true rfl] at this
                  exact this
                unfold partV at hsame
                obtain ⟨X, hX⟩ : ∃ X, textQ p.typ.1 = X := ⟨_, rfl⟩
                obtain ⟨Y, hY⟩ : ∃ Y, textQ p.typ.2.1 = Y := ⟨_, rfl⟩
                obtain ⟨D, hD⟩ : ∃ D, textQ p.body = D := ⟨_, rfl⟩
                rw [hX, hY, hD] at hsame
                rw [hX] at x1 y1
                rw [hY] at x2 y2
                rw [hD] at x4 y4
                clear hT1 hT2 hk1 hk2 hX hY hD hPj hp hjP
                have hS : Hid (∀ W, Below wr.heap.size wr W → W.cell? ⟨w5.heap.size, 5, none⟩ = some (.slice (some ⟨ga, oa, none⟩) nn q7) ∧
                    W.cell? ⟨ga, oa + j * 6, none⟩ = some (.slice b1 m1 d1) ∧ W.cell? ⟨ga, oa + j * 6 + 1, none⟩ = some (.string X) ∧ W.cell? ⟨ga, oa + j * 6 + 2, none⟩ = some (.string Y) ∧ W.cell? ⟨ga, oa + j * 6 + 3, none⟩ = some (.slice b2 m2 d2) ∧ W.cell? ⟨ga, oa + j * 6 + 4, none⟩ = some (.string D) ∧ W.cell? ⟨ga, oa + j * 6 + 5, none⟩ = some (.slice b3 m3 d3) ∧
                    W.cell? ⟨gb, ob + j * 6, none⟩ = some (.slice b4 m4 d4) ∧ W.cell? ⟨gb, ob + j * 6 + 1, none⟩ = some (.string X) ∧ W.cell? ⟨gb, ob + j * 6 + 2, none⟩ = some (.string Y) ∧ W.cell? ⟨gb, ob + j * 6 + 3, none⟩ = some (.slice b5 m5 d5) ∧ W.cell? ⟨gb, ob + j * 6 + 4, none⟩ = some (.string D) ∧ W.cell? ⟨gb, ob + j * 6 + 5, none⟩ = some (.slice b6 m6 d6)) := Lib.hid fun W hW => by
                  have hc : ∀ g o, g < w8.heap.size → W.cell? ⟨g, o, none⟩ = wr.cell? ⟨g, o, none⟩ := fun g o hg => hW.cell (p := ⟨g, o, none⟩) (by have := hbr.out.size; show g < wr.heap.size; omega)
                  have h5 := K8.out.2.lt
                  exact ⟨(hc _ _ h5).trans y5, (hc _ _ hga).trans x0, (hc _ _ hga).trans x1, (hc _ _ hga).trans x2, (hc _ _ hga).trans x3, (hc _ _ hga).trans x4, (hc _ _ hga).trans x5, (hc _ _ hgb).trans y0, (hc _ _ hgb).trans y1, (hc _ _ hgb).trans y2, (hc _ _ hgb).trans y3, (hc _ _ hgb).trans y4, (hc _ _ hgb).trans y6⟩
                have hS0 := Lib.hid (hS.out _ ((Below.refl wr.heap.size wr).drew))
                have hSw := Lib.hid (hS.out _ (Below.refl wr.heap.size wr))
                clear hga hgb
                go_wp2_with fail
                go_region_held3 (fun W => W.cell? ⟨w5.heap.size, 5, none⟩ = some (.slice (some ⟨ga, oa, none⟩) nn q7) ∧ W.cell? ⟨ga, oa + j * 6, none⟩ = some (.slice b1 m1 d1) ∧ W.cell? ⟨ga, oa + j * 6 + 1, none⟩ = some (.string X) ∧ W.cell? ⟨ga, oa + j * 6 + 2, none⟩ = some (.string Y) ∧ W.cell? ⟨ga, oa + j * 6 + 3, none⟩ = some (.slice b2 m2 d2) ∧ W.cell? ⟨ga, oa + j * 6 + 4, none⟩ = some (.string D) ∧ W.cell? ⟨ga, oa + j * 6 + 5, none⟩ = some (.slice b3 m3 d3) ∧ W.cell? ⟨gb, ob + j * 6, none⟩ = some (.slice b4 m4 d4) ∧ W.cell? ⟨gb, ob + j * 6 + 1, none⟩ = some (.string X) ∧ W.cell? ⟨gb, ob + j * 6 + 2, none⟩ = some (.string Y) ∧ W.cell? ⟨gb, ob + j * 6 + 3, none⟩ = some (.slice b5 m5 d5) ∧ W.cell? ⟨gb, ob + j * 6 + 4, none⟩ = some (.string D) ∧ W.cell? ⟨gb, ob + j * 6 + 5, none⟩ = some (.slice b6 m6 d6))
                  (first | assumption | exact hS0.out | exact hSw.out | exact hSc.out | (trace_state; fail))
                  ((go_at_call 19; (with_reducible refine (hsame.out _ ((Below.refl wr.heap.size wr).drew)).mono ?_); rintro e w9 ⟨rfl, hb⟩; have hb7 := ((Below.refl wr.heap.size wr).drew).trans hb; have hSc := Lib.hid (hS.out _ hb7); have B9 := Lib.hid (hbr.out.trans (hb7.mono hbr.out.size)); clear hb hb7))
                clear hS hS0 hSw hSc hsame x0 x1 x2 x3 x4 x5 y0 y1 y2 y3 y4 y5 y6
                go_wp2
                go_roundw
                case rel => exact ⟨j + 1, by omega, by go_num, B9⟩
                case measure => simp [intOf]; omega
              · obtain rfl : j = nn := by omega
                have Fin := Lib.hid (K8.out.1.trans (hbr.out.mono K8.out.1.size))
                go_wp2
                go_ret
                exact ⟨rfl, Fin.out⟩
end Go.Proofs.YtidlpdiephlkhaaGreatDoor
