/-
  The document's answer of layer 8: Parse.
-/
import Derived.Test.YtcjmpkfcjcoobaaGreatY28
import Derived.Deep.QuietTactic
import Derived.BigQuiet
import Derived.Deep.RegionHeld3
namespace Go.Proofs.YtcjmpkfcjcoobaaGreat
open Go.RowKit

/-- A place in a text, so far behind another one. -/
theorem at_facts (a n j : Nat) (J : Int) (hJ : J = j) (h : a + j < n) (hn : n ≤ 100000) : IntKind.i64.wrap ((a : Int) + J) = (a : Int) + J ∧ (0 : Int) ≤ (a : Int) + J ∧ (a : Int) + J < (n : Int) ∧ ((a : Int) + J).toNat = a + j :=
  ⟨wrap_small (by omega) (by omega), by omega, by omega, by omega⟩

set_option maxRecDepth 100000 in
set_option maxHeartbeats 8000000 in
theorem rparse_any (s : List UInt8) (hs : s.length ≤ 100000) (w : World) :
    Calls Tryz.prog 12 #[.string (textQ s)] w fun e w' => ∃ v code, e = .returned (.tuple #[v, .int .i64 code]) ∧ Below w.heap.size w w' ∧
      ((parseL s.length s = none ∧ code = 2 ∧ v = .slice none 0 0) ∨ (∃ l, parseL s.length s = some l ∧ code = 0 ∧ ChsOwn w' w.heap.size v l)) := by
  obtain ⟨i0, hi0, hz0, hz1, hz2⟩ := info_parts infoRCh
  obtain ⟨S, hS⟩ : ∃ S, textQ s = S := ⟨_, rfl⟩
  have hsl : S.data.toList = s := by rw [← hS]; rfl
  have hsz : S.size = s.length := by rw [← hS]; rfl
  obtain ⟨M, hM⟩ : ∃ M : Value → Int → World → Prop, ∀ v code w', M v code w' ↔ ((parseL s.length s = none ∧ code = 2 ∧ v = .slice none 0 0) ∨ (∃ l, parseL s.length s = some l ∧ code = 0 ∧ ChsOwn w' w.heap.size v l)) := ⟨_, fun _ _ _ => Iff.rfl⟩
  have HM := Lib.hid hM
  simp only [← hM]
  rw [hS]
  rw [← hsz] at hs
  have Hsl := Lib.hid hsl
  have Hsz := Lib.hid hsz
  clear hM hS hsl hsz
  go_enter Tryz.func12, Tryz.ntmps12
  go_wp2
  go_loopw [4, 5] (fun o av wr => ∃ (a : Nat) (li : List Ch), a ≤ S.size ∧ av = .int .i64 a ∧ li.length ≤ a ∧ Hid (parseL s.length s = (parseL s.length (s.drop a)).map (li ++ ·)) ∧ ChsOwn wr w.heap.size o li ∧ Below w.heap.size w wr) (fun _ av _ => S.size - (intOf av).toNat)
  case atStart => exact ⟨0, [], by omega, rfl, by simp, Lib.hid (by simp), World.ownsRow_nil _ _ _ _, Below.refl _ _⟩
  case round =>
    obtain ⟨a, li, ha, rfl, hli, hp, hown, hbr⟩ := hrel
    by_cases hlt : a < S.size
    · have hcons : ∃ b r, s.drop a = b :: r := by
        have h1 : (s.drop a).length = s.length - a := List.length_drop ..
        have h2 := Hsz.out
        cases h : s.drop a with
        | nil =>
          rw [h] at h1
          simp at h1
          omega
        | cons b r => exact ⟨b, r, rfl⟩
      have hstop : headL (s.drop a) = none → parseL s.length s = none := fun h => by
        obtain ⟨b, r, e⟩ := hcons
        rw [e] at h
        rw [hp.out, e, parse_stop h]
        rfl
      have hnone : parseL s.length s = none → ∀ w', M (.slice none 0 0) 2 w' := fun h w' => (HM.out _ _ _).2 (.inl ⟨h, rfl, rfl⟩)
      by_cases h5 : S.size < a + 5
      · have Hn := Lib.hid (hnone (hstop (head_short (by rw [List.length_drop]; have := Hsz.out; omega))))
        clear hstop hnone hcons
        go_wp2
        --@a
        go_ret2
        exact ⟨_, _, rfl, hbr, Hn.out _⟩
      · have hd5 := drop_five S a (by omega)
        rw [Hsl.out] at hd5
        obtain ⟨x0, hx0⟩ : ∃ x, S[a] = x := ⟨_, rfl⟩
        obtain ⟨x1, hx1⟩ : ∃ x, S[a + 1] = x := ⟨_, rfl⟩
        obtain ⟨x2, hx2⟩ : ∃ x, S[a + 2] = x := ⟨_, rfl⟩
        obtain ⟨x3, hx3⟩ : ∃ x, S[a + 3] = x := ⟨_, rfl⟩
        obtain ⟨x4, hx4⟩ : ∃ x, S[a + 4] = x := ⟨_, rfl⟩
        rw [hx0, hx1, hx2, hx3, hx4] at hd5
        have hhd := head_five x0 x1 x2 x3 x4 (s.drop (a + 5))
        rw [← hd5] at hhd
        have Hhd := Lib.hid (And.intro hhd hd5)
        clear hcons hd5
        by_cases hg : 1 < x0.toNat
        · have Hn := Lib.hid (hnone (hstop (by rw [hhd, if_pos (.inl hg)])))
          have hgi : (1 : Int) < (x0.toNat : Int) := by omega
          clear hstop hnone hhd
          go_wp2
          --@b
          go_ret2
          exact ⟨_, _, rfl, hbr, Hn.out _⟩
        · obtain ⟨p1, q1, r1, t1⟩ := at_facts a S.size 1 1 rfl (by omega) hs
          obtain ⟨p2, q2, r2, t2⟩ := at_facts a S.size 2 2 rfl (by omega) hs
          obtain ⟨p3, q3, r3, t3⟩ := at_facts a S.size 3 3 rfl (by omega) hs
          obtain ⟨p4, q4, r4, t4⟩ := at_facts a S.size 4 4 rfl (by omega) hs
          have hgi : ¬ (1 : Int) < (x0.toNat : Int) := by omega
          have b1 := x1.toNat_lt
          have b2 := x2.toNat_lt
          have b3 := x3.toNat_lt
          have b4 := x4.toNat_lt
          have m1 : IntKind.i64.wrap ((x1.toNat : Int) * 256) = (x1.toNat : Int) * 256 := wrap_small (by omega) (by omega)
          have m3 : IntKind.i64.wrap ((x3.toNat : Int) * 256) = (x3.toNat : Int) * 256 := wrap_small (by omega) (by omega)
          have s1 : IntKind.i64.wrap ((x1.toNat : Int) * 256 + (x2.toNat : Int)) = (x1.toNat : Int) * 256 + (x2.toNat : Int) := wrap_small (by omega) (by omega)
          have s3 : IntKind.i64.wrap ((x3.toNat : Int) * 256 + (x4.toNat : Int)) = (x3.toNat : Int) * 256 + (x4.toNat : Int) := wrap_small (by omega) (by omega)
          clear hhd
          have Hst := Lib.hid hstop
          have Hno := Lib.hid hnone
          clear hstop hnone
          go_wp2_with fail
          --@c
          go_quiet (fail)
          have hb2 := below_drewN hbr nq
          have ho2 := ownsRow_below4 hown (below_drewN (Below.refl wr.heap.size wr) nq)
          generalize wr.drewN nq = w2 at hb2 ho2 ⊢
          clear hbr hown
          --@d
          go_wp2_with fail
          --@e
          go_quiet (fail)
          have hb3 := below_drewN hb2 nq
          have ho3 := ownsRow_below4 ho2 (below_drewN (Below.refl w2.heap.size w2) nq)
          generalize w2.drewN nq = w3 at hb3 ho3 ⊢
          clear hb2 ho2
          obtain ⟨k, hk⟩ : ∃ k : Nat, x1.toNat * 256 + x2.toNat = k := ⟨_, rfl⟩
          obtain ⟨v, hv⟩ : ∃ v : Nat, x3.toNat * 256 + x4.toNat = v := ⟨_, rfl⟩
          have hki : (x1.toNat : Int) * 256 + (x2.toNat : Int) = (k : Int) := by omega
          have hvi : (x3.toNat : Int) * 256 + (x4.toNat : Int) = (v : Int) := by omega
          have hk6 : k ≤ 65535 := by omega
          have hv6 : v ≤ 65535 := by omega
          rw [hki, hvi]
          clear p1 q1 r1 t1 p2 q2 r2 t2 p3 q3 r3 t3 p4 q4 r4 t4 b1 b2 b3 b4 m1 m3 s1 s3
          obtain ⟨hhd, hd5⟩ := Hhd.out
          rw [show val2 x1 x2 = k from hk, show val2 x3 x4 = v from hv] at hhd
          have hdl : (s.drop (a + 5)).length = S.size - (a + 5) := by rw [List.length_drop, Hsz.out]
          rw [hdl] at hhd
          clear hk hv hki hvi
          by_cases hlong : S.size < a + 5 + k + v
          · have Hn := Lib.hid (Hno.out (Hst.out (by rw [hhd, if_pos (.inr (.inl (by omega)))])))
            clear hhd hd5 hdl
            go_wp2
            --@f
            go_ret2
            exact ⟨_, _, rfl, hb3, Hn.out _⟩
          · by_cases h1 : x0 = 1
            · have e1 : x0.toNat = 1 := by rw [h1]; rfl
              have e1i : (x0.toNat : Int) = 1 := by omega
              have e1b : ((x0.toNat : Int) == 1) = true := by rw [e1i]; rfl
              by_cases hv0 : 0 < v
              · have Hn := Lib.hid (Hno.out (Hst.out (by rw [hhd, if_pos (.inr (.inr ⟨h1, hv0⟩))])))
                clear hhd hd5 hdl e1 e1i
                go_wp2
                --@h
                go_ret2
                exact ⟨_, _, rfl, hb3, Hn.out _⟩
              · clear e1i
                have hw5 : IntKind.i64.wrap ((a : Int) + 5) = (a : Int) + 5 := wrap_small (by omega) (by omega)
                have hwk : IntKind.i64.wrap ((a : Int) + 5 + (k : Int)) = (a : Int) + 5 + (k : Int) := wrap_small (by omega) (by omega)
                have hwv : IntKind.i64.wrap ((a : Int) + 5 + (k : Int) + (v : Int)) = (a : Int) + 5 + (k : Int) + (v : Int) := wrap_small (by omega) (by omega)
                have z0 : (0 : Int) ≤ (a : Int) := by omega
                have z1 : (a : Int) < (S.size : Int) := by omega
                have z5 : (0 : Int) ≤ (a : Int) + 5 := by omega
                have z6 : (a : Int) + 5 ≤ (a : Int) + 5 + (k : Int) := by omega
                have z7 : (a : Int) + 5 + (k : Int) ≤ (S.size : Int) := by omega
                have z8 : (0 : Int) ≤ (a : Int) + 5 + (k : Int) := by omega
                have z9 : (a : Int) + 5 + (k : Int) ≤ (a : Int) + 5 + (k : Int) + (v : Int) := by omega
                have z10 : (a : Int) + 5 + (k : Int) + (v : Int) ≤ (S.size : Int) := by omega
                have n5 : ((a : Int) + 5).toNat = a + 5 := by omega
                have nk : ((a : Int) + 5 + (k : Int)).toNat = a + 5 + k := by omega
                have nv : ((a : Int) + 5 + (k : Int) + (v : Int)).toNat = a + 5 + k + v := by omega
                obtain ⟨c, hc⟩ : ∃ c : Ch, c = ⟨(s.drop (a + 5)).take k, ((s.drop (a + 5)).drop k).take v, true⟩ := ⟨_, rfl⟩
                have hK : S.extract (a + 5) (a + 5 + k) = textQ c.key := by
                  rw [cut_text, Hsl.out, hc, show a + 5 + k - (a + 5) = k by omega]
                have hV : S.extract (a + 5 + k) (a + 5 + k + v) = textQ c.val := by
                  rw [cut_text, Hsl.out, hc, show a + 5 + k + v - (a + 5 + k) = v by omega, List.drop_drop]
                have hgc : c.gone = true := by rw [hc]
                have hstep : parseL s.length (s.drop a) = (parseL s.length (s.drop (a + 5 + k + v))).map (c :: ·) := by
                  refine parse_step (by rw [List.length_drop]; omega) ?_
                  rw [hhd, if_neg (by rintro (h | h | ⟨_, h⟩) <;> omega), hc]
                  simp only [List.drop_drop]
                  rw [show a + 5 + (k + v) = a + 5 + k + v by omega]
                  rw [h1]; rfl
                have hp2 : Hid (parseL s.length s = (parseL s.length (s.drop (a + 5 + k + v))).map ((li ++ [c]) ++ ·)) := Lib.hid (by
                  rw [hp.out, hstep, Option.map_map]
                  congr 1
                  funext x
                  simp)
                obtain ⟨K, hKK⟩ : ∃ K, S.extract (a + 5) (a + 5 + k) = K := ⟨_, rfl⟩
                obtain ⟨V, hVV⟩ : ∃ V, S.extract (a + 5 + k) (a + 5 + k + v) = V := ⟨_, rfl⟩
                have hcells : chsCells li ++ [.string K, .string V, .bool true] = chsCells (li ++ [c]) := by
                  rw [chs_snoc, chCells, hgc, ← hK, ← hV, hKK, hVV]
                have Hcells := Lib.hid hcells
                have h63 : li.length + 1 ≤ maxLen := by unfold maxLen; omega
                have hbb : (li.length + 1) * 40 ≤ 140737488355328 := by omega
                have hbz := hb3.size
                clear hK hV hgc hstep hc hcells hhd hd5 hdl Hhd Hst Hno hp
                --@i
                go_wp2_with fail
                go_region_held3 (fun _ => True) (trivial)
                  ((refine step_append_lies _ (by rfl) _ _ _ (by rfl) w.heap.size 37 i0 _ 3 40 Tryz.underlying31 hi0 hz0 hz1 hz2 rfl (by omega) u4 li.length (chsCells li) (by rfl) ((World.ownsRow.alloc ho3 _).drew)
                        ⟨w3.heap.size, 0, none⟩ 1 1 [.string K, .string V, .bool true] (by rfl) (by rfl) (World.news_of_block (cs := #[.string K, .string V, .bool true]) (t := 37) (fr := (0, 0)) (heap_alloc_new w3 _)) (by simp [Value.oneCell'])
                        (by omega) h63 hbb (by simp; omega) (w3.heap.size + 1) (by simp) ?_; intro gg cap w4 hown4 hgrow hat hlt4))
                rename_i hHeld
                clear hHeld
                have hb4 : Below w.heap.size w w4 := ((hb3.alloc hbz (.cells #[.string K, .string V, .bool true] 37)).trans (Below.drew (Below.refl _ _))).grown hgrow (by simp; omega) (fun k e => (row_block ho3 e).1)
                have ho4 : ChsOwn w4 w.heap.size (.slice (some ⟨gg, 0, none⟩) (li.length + 1) cap) (li ++ [c]) := by
                  unfold ChsOwn
                  rw [← Hcells.out, List.length_append]
                  exact hown4
                clear hown4 hgrow hat hlt4 ho3 hb3 h63 hbb
                go_wp2
                go_roundw
                case rel => exact ⟨a + 5 + k + v, li ++ [c], by omega, by go_num, by simp; omega, hp2, ho4, hb4⟩
                case measure => simp [intOf]; omega
            · have e0b : ((x0.toNat : Int) == 1) = false := by
                rw [beq_eq_false_iff_ne]
                intro e
                exact h1 (UInt8.toNat_inj.1 (by show x0.toNat = 1; omega))
              have h1b : (x0 == 1) = false := beq_eq_false_iff_ne.2 h1
              have hw5 : IntKind.i64.wrap ((a : Int) + 5) = (a : Int) + 5 := wrap_small (by omega) (by omega)
              have hwk : IntKind.i64.wrap ((a : Int) + 5 + (k : Int)) = (a : Int) + 5 + (k : Int) := wrap_small (by omega) (by omega)
              have hwv : IntKind.i64.wrap ((a : Int) + 5 + (k : Int) + (v : Int)) = (a : Int) + 5 + (k : Int) + (v : Int) := wrap_small (by omega) (by omega)
              have z0 : (0 : Int) ≤ (a : Int) := by omega
              have z1 : (a : Int) < (S.size : Int) := by omega
              have z5 : (0 : Int) ≤ (a : Int) + 5 := by omega
              have z6 : (a : Int) + 5 ≤ (a : Int) + 5 + (k : Int) := by omega
              have z7 : (a : Int) + 5 + (k : Int) ≤ (S.size : Int) := by omega
              have z8 : (0 : Int) ≤ (a : Int) + 5 + (k : Int) := by omega
              have z9 : (a : Int) + 5 + (k : Int) ≤ (a : Int) + 5 + (k : Int) + (v : Int) := by omega
              have z10 : (a : Int) + 5 + (k : Int) + (v : Int) ≤ (S.size : Int) := by omega
              have n5 : ((a : Int) + 5).toNat = a + 5 := by omega
              have nk : ((a : Int) + 5 + (k : Int)).toNat = a + 5 + k := by omega
              have nv : ((a : Int) + 5 + (k : Int) + (v : Int)).toNat = a + 5 + k + v := by omega
              obtain ⟨c, hc⟩ : ∃ c : Ch, c = ⟨(s.drop (a + 5)).take k, ((s.drop (a + 5)).drop k).take v, false⟩ := ⟨_, rfl⟩
              have hK : S.extract (a + 5) (a + 5 + k) = textQ c.key := by
                rw [cut_text, Hsl.out, hc, show a + 5 + k - (a + 5) = k by omega]
              have hV : S.extract (a + 5 + k) (a + 5 + k + v) = textQ c.val := by
                rw [cut_text, Hsl.out, hc, show a + 5 + k + v - (a + 5 + k) = v by omega, List.drop_drop]
              have hgc : c.gone = false := by rw [hc]
              have hstep : parseL s.length (s.drop a) = (parseL s.length (s.drop (a + 5 + k + v))).map (c :: ·) := by
                refine parse_step (by rw [List.length_drop]; omega) ?_
                rw [hhd, if_neg (by rintro (h | h | ⟨h, _⟩) <;> first | omega | exact h1 h), hc]
                simp only [List.drop_drop]
                rw [show a + 5 + (k + v) = a + 5 + k + v by omega]
                rw [h1b]
              have hp2 : Hid (parseL s.length s = (parseL s.length (s.drop (a + 5 + k + v))).map ((li ++ [c]) ++ ·)) := Lib.hid (by
                rw [hp.out, hstep, Option.map_map]
                congr 1
                funext x
                simp)
              obtain ⟨K, hKK⟩ : ∃ K, S.extract (a + 5) (a + 5 + k) = K := ⟨_, rfl⟩
              obtain ⟨V, hVV⟩ : ∃ V, S.extract (a + 5 + k) (a + 5 + k + v) = V := ⟨_, rfl⟩
              have hcells : chsCells li ++ [.string K, .string V, .bool false] = chsCells (li ++ [c]) := by
                rw [chs_snoc, chCells, hgc, ← hK, ← hV, hKK, hVV]
              have Hcells := Lib.hid hcells
              have h63 : li.length + 1 ≤ maxLen := by unfold maxLen; omega
              have hbb : (li.length + 1) * 40 ≤ 140737488355328 := by omega
              have hbz := hb3.size
              clear hK hV hgc hstep hc hcells hhd hd5 hdl Hhd Hst Hno hp
              --@j
              go_wp2_with fail
              go_region_held3 (fun _ => True) (trivial)
                ((refine step_append_lies _ (by rfl) _ _ _ (by rfl) w.heap.size 37 i0 _ 3 40 Tryz.underlying31 hi0 hz0 hz1 hz2 rfl (by omega) u4 li.length (chsCells li) (by rfl) ((World.ownsRow.alloc ho3 _).drew)
                      ⟨w3.heap.size, 0, none⟩ 1 1 [.string K, .string V, .bool false] (by rfl) (by rfl) (World.news_of_block (cs := #[.string K, .string V, .bool false]) (t := 37) (fr := (0, 0)) (heap_alloc_new w3 _)) (by simp [Value.oneCell'])
                      (by omega) h63 hbb (by simp; omega) (w3.heap.size + 1) (by simp) ?_; intro gg cap w4 hown4 hgrow hat hlt4))
              rename_i hHeld
              clear hHeld
              have hb4 : Below w.heap.size w w4 := ((hb3.alloc hbz (.cells #[.string K, .string V, .bool false] 37)).trans (Below.drew (Below.refl _ _))).grown hgrow (by simp; omega) (fun k e => (row_block ho3 e).1)
              have ho4 : ChsOwn w4 w.heap.size (.slice (some ⟨gg, 0, none⟩) (li.length + 1) cap) (li ++ [c]) := by
                unfold ChsOwn
                rw [← Hcells.out, List.length_append]
                exact hown4
              clear hown4 hgrow hat hlt4 ho3 hb3 h63 hbb
              go_wp2
              go_roundw
              case rel => exact ⟨a + 5 + k + v, li ++ [c], by omega, by go_num, by simp; omega, hp2, ho4, hb4⟩
              case measure => simp [intOf]; omega
    · obtain rfl : a = S.size := by omega
      have hpz : parseL s.length s = some li := by
        have h0 : s.drop S.size = [] := List.drop_of_length_le (by rw [Hsz.out]; exact Nat.le_refl _)
        rw [hp.out, h0]
        have : parseL s.length [] = some [] := by
          cases s.length <;> rfl
        rw [this]
        simp
      have Hn : Hid (M u4 0 wr) := Lib.hid ((HM.out _ _ _).2 (.inr ⟨li, hpz, rfl, hown⟩))
      clear hpz hp hown
      go_wp2
      --@g
      go_ret2
      exact ⟨_, _, rfl, hbr, Hn.out⟩
end Go.Proofs.YtcjmpkfcjcoobaaGreat
