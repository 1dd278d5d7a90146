/-
  MimeFields: the walk.
-/
import Derived.Test.YtidlpdiephlkhaaGreatDoorZ44
import Derived.Test.YtidlpdiephlkhaaGreatDoorZFew10
import Derived.Test.YtidlpdiephlkhaaGreatDoorZ35
import Derived.Test.YtidlpdiephlkhaaGreatDoorZ19
import Derived.Test.YtidlpdiephlkhaaGreatDoorZHdF
namespace Go.Proofs.YtidlpdiephlkhaaGreatDoor
open Go.RowKit

/-- What lies there behind the first parse. -/
structure FieK (w : World) (b1 : Nat) (v : Value) (l : List FieldH) (p : TreeM) (f1 : Value) (X Y : ByteArray) (p1 : Value) (D : ByteArray) (r1 : Value) (W : World) : Prop where
  b : Below w.heap.size w W
  a : PrtAt W b1 f1 (.string X) (.string Y) p1 (.string D) r1
  t : TreeAt W b1 p f1 p1 r1
theorem FieK.step {w W W' : World} {b1 : Nat} {v : Value} {l : List FieldH} {p : TreeM} {f1 : Value} {X Y : ByteArray} {p1 : Value} {D : ByteArray} {r1 : Value} (h : FieK w b1 v l p f1 X Y p1 D r1 W) (k : Below W.heap.size W W') : FieK w b1 v l p f1 X Y p1 D r1 W' :=
  ⟨h.b.trans (k.mono h.b.size), h.a.below k, h.t.below k (Nat.le_of_lt h.a.lt)⟩
theorem fields_first {w : World} {B : Nat} {a : Option Addr} {n c : Nat} {l fs : List FieldH} (h : FieldsAt w B (.slice a n c) (l ++ fs)) : FieldsAt w B (.slice a l.length c) l := by
  obtain ⟨a2, c2, e, h1, h2, h3⟩ := h
  cases e
  rw [List.length_append] at h1
  refine ⟨_, _, rfl, by omega, h2, fun i hi => ?_⟩
  obtain ⟨g, off, q1, q2, q3, q4⟩ := h3 i (by rw [List.length_append]; omega)
  rw [List.getElem_append_left hi] at q3 q4
  exact ⟨g, off, q1, q2, q3, q4⟩
theorem fields_rest {w : World} {B : Nat} {a : Option Addr} {n c i : Nat} {l fs : List FieldH} (h : FieldsAt w B (.slice a n c) (l ++ fs)) (hi : l.length = i) : FieldsAt w B (.slice (a.map fun x => x.add (i * 2)) (n - i) (c - i)) fs := by
  obtain ⟨a2, c2, e, h1, h2, h3⟩ := h
  cases e
  rw [List.length_append] at h1
  unfold maxLen at h2
  refine ⟨a.map fun x => x.add (i * 2), c - i, by rw [List.length_append, ← hi, Nat.add_sub_cancel_left], by omega, by unfold maxLen; omega, fun j hj => ?_⟩
  obtain ⟨g, off, q1, q2, q3, q4⟩ := h3 (i + j) (by rw [List.length_append]; omega)
  have hg : (l ++ fs)[i + j]'(by rw [List.length_append]; omega) = fs[j] := by
    rw [List.getElem_append_right (by omega)]
    congr 1
    omega
  rw [hg] at q3 q4
  refine ⟨g, off + i * 2, ?_, q2, ?_, ?_⟩
  · rw [q1, Option.map_some, Addr.add_lit]
  · rw [show off + i * 2 + j * 2 = off + (i + j) * 2 by omega]
    exact q3
  · rw [show off + i * 2 + j * 2 + 1 = off + (i + j) * 2 + 1 by omega]
    exact q4
theorem fields_none (w : World) (B : Nat) (a : Option Addr) : FieldsAt w B (.slice a 0 0) [] := ⟨a, 0, rfl, Nat.le_refl _, by simp [maxLen], fun i hi => absurd hi (by simp)⟩

set_option maxRecDepth 100000 in
set_option maxHeartbeats 8000000 in
theorem mfields_walk (s : ByteArray) (v : Value) (l : List FieldH) (m : Int) (w : World) (hat : FieldsAt w w.heap.size v l) (hsm : SmallF maxLen l) (hnl : NilF v) (hm : w.cell? ⟨0, 0, none⟩ = some (.int .i64 m)) (hs : s.size ≤ maxLen) :
    Calls Tryz.prog 8 #[.string s, v] w fun e w' => e = .returned (.bool true) ∧ Below w.heap.size w w' := by
  have haw := awake13_any m w hm
  have HM : Hid (∀ W, Below w.heap.size w W → W.cell? ⟨0, 0, none⟩ = some (.int .i64 m)) := Lib.hid fun W hW => bound_abide hm hW
  have HA : Hid (∀ W, Below w.heap.size w W → FieldsAt W w.heap.size v l) := Lib.hid fun W hW => hat.below hW (Nat.le_refl _)
  have hfew : Hid (∀ W, Below w.heap.size w W → Calls Tryz.prog 26 #[v] W (FewPost l W)) := Lib.hid fun W hW => few10_any w.heap.size v l W (HA.out W hW) hW.size hsm
  obtain ⟨ao, cap, rfl, hc1, hc2, -⟩ := hat
  have HN := Lib.hid hnl
  obtain ⟨n, hn⟩ : ∃ n, l.length = n := ⟨_, rfl⟩
  rw [hn] at hc1 HA hfew HN ⊢
  have Hn := Lib.hid hn
  unfold maxLen at hs hc2
  clear hm hnl hn hsm
  go_enter Tryz.func8, Tryz.ntmps8
  go_wp2_with fail
  refine haw.mono ?_
  rintro e w1 ⟨rfl, hw1⟩
  have B1 := Lib.hid hw1
  clear haw hw1
  by_cases h1 : 4000 < s.size
  · have h1i : (4000 : Int) < (s.size : Int) := by omega
    clear h1
    go_wp2
    go_ret
    exact ⟨rfl, B1.out⟩
  · have h1i : (s.size : Int) ≤ 4000 := by omega
    have hf := hfew.out w1 B1.out
    clear h1 hfew
    go_wp2_with fail
    refine hf.mono ?_
    rintro e w2 ⟨b, rfl, hfb, hb⟩
    have B2 := Lib.hid (B1.out.trans (hb.mono B1.out.size))
    clear hf hb B1
    cases b with
    | false =>
      go_wp2
      go_ret
      exact ⟨rfl, B2.out⟩
    | true =>
      have Hfew := Lib.hid (hfb rfl)
      clear hfb
      by_cases h10 : 10 < n
      · have h10i : (10 : Int) < (n : Int) := by omega
        go_wp2
        go_ret
        exact ⟨rfl, B2.out⟩
      · have h10i : (n : Int) ≤ 10 := by omega
        have hpr := hprint_any w.heap.size (.slice ao n cap) l w2 (HA.out w2 B2.out) B2.out.size (fun f hf => by have := Hfew.out.small f hf; omega)
        obtain ⟨⟨T, c⟩, hT⟩ : ∃ r, printH l = r := ⟨_, rfl⟩
        unfold printV10 at hpr
        rw [hT] at hpr
        obtain ⟨TQ, hTQ⟩ : ∃ TQ, textQ T = TQ := ⟨_, rfl⟩
        simp only [hTQ] at hpr
        have hp0 := fun W (hW : Below w.heap.size w W) => mparse_any s m W (by omega) (HM.out W hW)
        obtain ⟨⟨p, er⟩, hr⟩ : ∃ r, parseM s.data.toList = r := ⟨_, rfl⟩
        unfold ParsePostM at hp0
        simp only [hr] at hp0
        obtain ⟨X, hX⟩ : ∃ X, textQ p.typ.1 = X := ⟨_, rfl⟩
        obtain ⟨Y, hY⟩ : ∃ Y, textQ p.typ.2.1 = Y := ⟨_, rfl⟩
        obtain ⟨D, hD⟩ : ∃ D, textQ p.body = D := ⟨_, rfl⟩
        obtain ⟨nf, hnf⟩ : ∃ nf, p.fields.length = nf := ⟨_, rfl⟩
        have hp : Hid (∀ W, Below w.heap.size w W → Calls Tryz.prog 11 #[.string s] W fun e w' => ∃ a1 c1 a2 n2 c2 a3 n3 c3, e = .returned (.tuple #[.agg #[.slice a1 nf c1, .string X, .string Y, .slice a2 n2 c2, .string D, .slice a3 n3 c3], .int .i64 er]) ∧ Hid (TreeAt w' w'.heap.size p (.slice a1 nf c1) (.slice a2 n2 c2) (.slice a3 n3 c3) ∧ Below W.heap.size W w')) := Lib.hid fun W hW => (hp0 W hW).mono fun e w' ⟨fv, pv, rv, h1, h2, h3⟩ => by
          obtain ⟨_, ⟨a2, n2, c2, rfl⟩, ⟨a3, n3, c3, rfl⟩⟩ := h2.slices
          obtain ⟨a1, c1, rfl, _⟩ := h2.f.slice
          exact ⟨a1, c1, a2, n2, c2, a3, n3, c3, by rw [h1, ← hX, ← hY, ← hD, ← hnf]; rfl, Lib.hid (by rw [← hnf]; exact ⟨h2.at, h3⟩)⟩
        have HX := Lib.hid (And.intro hX (And.intro hY (And.intro hD hnf)))
        have HR := Lib.hid hr
        have HT := Lib.hid (And.intro hT hTQ)
        clear h10 hp0 hr hX hY hD hnf hT hTQ
        go_wp2_with fail
        refine hpr.mono ?_
        rintro e w3 ⟨rfl, hb⟩
        have B3 := Lib.hid (B2.out.trans (hb.mono B2.out.size))
        have h3 := hp.out w3 B3.out
        clear hpr hb B2 hp
        go_wp2_with fail
        refine h3.mono ?_
        rintro e w4 ⟨a1, c1, a2, n2, c2, a3, n3, c3, rfl, hx⟩
        obtain ⟨w5, hw5⟩ : ∃ W, w4.alloc (.cells #[.slice a1 nf c1, .string X, .string Y, .slice a2 n2 c2, .string D, .slice a3 n3 c3] 29) = W := ⟨_, rfl⟩
        have K5 : Hid (FieK w w4.heap.size (.slice ao n cap) l p (.slice a1 nf c1) X Y (.slice a2 n2 c2) D (.slice a3 n3 c3) w5) := Lib.hid (by
          obtain ⟨k1, k2⟩ := hx.out
          have l5 : Below w4.heap.size w4 w5 := by rw [← hw5]; exact (Below.refl _ _).alloc (Nat.le_refl _) _
          have b35 := k2.trans (l5.mono k2.size)
          exact ⟨B3.out.trans (b35.mono B3.out.size), by rw [← hw5]; exact prt_new w4 _ _ _ _ _ _, k1.below l5 (Nat.le_refl _)⟩)
        obtain ⟨x0, x1, x2, x3, x4, x5, _⟩ := K5.out.a.cells
        have hnfc := K5.out.t.f.slice
        clear h3 hx B3
        by_cases hc : c = 0
        · subst hc
          by_cases he : er = 0
          · subst he
            have hok := print_ok (l := l) (by rw [HT.out.1])
            rw [HT.out.1] at hok
            obtain ⟨hrt, h64, hlg, hTe⟩ := hok
            have hTe : T = headerH l := hTe
            have hTl : TQ.size = T.length := by rw [← HT.out.2]; rfl
            have hTb : TQ.size ≤ 3100002 := by
              have := head_len l (fun f hf => ⟨by have := (hrt f hf).n64; omega, by have := Hfew.out.small f hf; omega⟩)
              have := Hn.out
              rw [hTl, hTe]
              unfold headerH
              rw [List.length_append]
              simp only [List.length_cons, List.length_nil]
              omega
            have hwl : IntKind.i64.wrap ((TQ.size : Int) + (s.size : Int)) = (TQ.size : Int) + (s.size : Int) := IntWalk.i64_in _ (by omega)
            by_cases hlen : 16000 < TQ.size + s.size
            · have hleni : (16000 : Int) < (TQ.size : Int) + (s.size : Int) := by omega
              clear hTb hlen hTl
              go_wp2
              go_ret
              exact ⟨rfl, K5.out.b⟩
            · have hleni : (TQ.size : Int) + (s.size : Int) ≤ 16000 := by omega
              have hlim := tree_lim HR.out
              have hnf64 : nf ≤ 64 := by
                have h9 := hlim.2 p (by rw [nodes_parts]; exact List.mem_cons_self ..)
                have := HX.out.2.2.2
                have := h9.fl
                omega
              have hwn : IntKind.i64.wrap ((nf : Int) + (n : Int)) = ((nf + n : Nat) : Int) := by rw [IntWalk.i64_in _ (by omega)]; omega
              have hwn2 : IntKind.i64.wrap ((n : Int) + (nf : Int)) = ((nf + n : Nat) : Int) := by rw [IntWalk.i64_in _ (by omega)]; omega
              by_cases h64b : 64 < nf + n
              · have h64i : (64 : Int) < ((nf + n : Nat) : Int) := by omega
                clear hTb hlen hTl h64b hwn2 hlim
                go_wp2
                go_ret
                exact ⟨rfl, K5.out.b⟩
              · have h64i : ((nf + n : Nat) : Int) ≤ 64 := by omega
                obtain ⟨tot, htot⟩ : ∃ tot, nf + n = tot := ⟨_, rfl⟩
                obtain ⟨S, hS⟩ : ∃ S : ByteArray, TQ.extract 0 (TQ.size - 2) ++ s = S := ⟨_, rfl⟩
                have hTd : TQ.data.toList = headerH l := by rw [← hTe, ← HT.out.2]; rfl
                have hT2 : 2 ≤ TQ.size := by
                  rw [hTl, hTe]
                  unfold headerH
                  rw [List.length_append]
                  simp only [List.length_cons, List.length_nil]
                  omega
                have hSd : S.data.toList = endH (l.flatMap linesH) ++ s.data.toList := by
                  rw [← hS, ByteArray.data_append, Array.toList_append, Lib.extract_data, hTd, List.drop_zero, Nat.sub_zero]
                  congr 1
                  have e : TQ.size = (headerH l).length := by rw [hTl, hTe]
                  rw [e]
                  unfold headerH
                  rw [List.length_append]
                  exact List.take_left' (by simp)
                have hSs : S.size ≤ 16000 := by
                  rw [← hS, ByteArray.size_append, ByteArray.size_extract]
                  omega
                have hq0 := fun W (hW : Below w.heap.size w W) => mparse_any S m W (by omega) (HM.out W hW)
                have hq : Hid ((∀ f ∈ l, sameH f.1 ctM = false ∧ sameH f.1 cteM = false) → ∀ W, Below w.heap.size w W → Calls Tryz.prog 11 #[.string S] W fun e w' => ∃ a1 c1 a2 n2 c2 a3 n3 c3, e = .returned (.tuple #[.agg #[.slice a1 tot c1, .string X, .string Y, .slice a2 n2 c2, .string D, .slice a3 n3 c3], .int .i64 0]) ∧ tot ≤ c1 ∧ c1 ≤ maxLen ∧ Hid (TreeAt w' w'.heap.size (.mk (l ++ p.fields) p.typ p.body p.parts) (.slice a1 tot c1) (.slice a2 n2 c2) (.slice a3 n3 c3) ∧ Below W.heap.size W w')) := Lib.hid fun hc W hW => (hq0 W hW).mono fun e w' ⟨fv, pv, rv, h1, h2, h3⟩ => by
                  have hr := HR.out
                  have ht := tree_more (l := l) (by rw [HT.out.1]) (s := s.data.toList) (by rw [hr]) (by rw [hr]; have := Hn.out; have := HX.out.2.2.2; show l.length + p.fields.length ≤ 64; omega) (by rw [← hSd]; show S.size ≤ _; omega) hc
                  rw [hr, ← hSd] at ht
                  rw [ht] at h1 h2
                  obtain ⟨_, ⟨a2, n2, c2, rfl⟩, ⟨a3, n3, c3, rfl⟩⟩ := h2.slices
                  obtain ⟨a1, c1, rfl, g1, g2⟩ := h2.f.slice
                  have hlen : (TreeM.fields (.mk (l ++ p.fields) p.typ p.body p.parts)).length = tot := by
                    show (l ++ p.fields).length = tot
                    rw [List.length_append, Hn.out, HX.out.2.2.2, ← htot]
                    omega
                  rw [hlen] at h1 h2 g1
                  exact ⟨a1, c1, a2, n2, c2, a3, n3, c3, by rw [h1, ← HX.out.1, ← HX.out.2.1, ← HX.out.2.2.1]; rfl, g1, g2, Lib.hid ⟨h2.at, h3⟩⟩
                have hT2i : IntKind.i64.wrap ((TQ.size : Int) - 2) = ((TQ.size - 2 : Nat) : Int) := by rw [IntWalk.i64_in _ (by omega)]; omega
                have hss : ∀ (a : ByteArray), a.size ≤ 8000 → Hid (∀ W, Calls Tryz.prog 28 #[.string a, .string ⟨#[67, 111, 110, 116, 101, 110, 116, 45, 84, 121, 112, 101]⟩] W fun e w' => e = .returned (.bool (sameH a.data.toList ctM)) ∧ Below W.heap.size W w') := fun a ha => Lib.hid fun W => hsame_any a ⟨#[67, 111, 110, 116, 101, 110, 116, 45, 84, 121, 112, 101]⟩ W (by omega) (by decide)
                have hss2 : ∀ (a : ByteArray), a.size ≤ 8000 → Hid (∀ W, Calls Tryz.prog 28 #[.string a, .string ⟨#[67, 111, 110, 116, 101, 110, 116, 45, 84, 114, 97, 110, 115, 102, 101, 114, 45, 69, 110, 99, 111, 100, 105, 110, 103]⟩] W fun e w' => e = .returned (.bool (sameH a.data.toList cteM)) ∧ Below W.heap.size W w') := fun a ha => Lib.hid fun W => hsame_any a ⟨#[67, 111, 110, 116, 101, 110, 116, 45, 84, 114, 97, 110, 115, 102, 101, 114, 45, 69, 110, 99, 111, 100, 105, 110, 103]⟩ W (by omega) (by decide)
                have HSS := Lib.hid (And.intro hss hss2)
                have Hnum := Lib.hid (And.intro hwn (And.intro hwn2 (And.intro htot (And.intro hT2i (And.intro hT2 (And.intro hnf64 h64b))))))
                have htoti : IntKind.i64.wrap ((nf : Int) + (n : Int)) = (tot : Int) := by rw [hwn, htot]
                have htoti64 : (tot : Int) ≤ 64 := by omega
                rw [htot] at h64i
                have HS := Lib.hid (And.intro hS (And.intro hSs hSd))
                clear hTb hlen hTl h64b hwn2 hlim hwn htot hS hTd hT2 hSd hSs hq0 hT2i hss hss2 hrt h64 hlg hTe hnf64 h64i
                go_wp2
                go_loopw [9] (fun iv wr => ∃ i : Nat, i ≤ n ∧ iv = .int .i64 i ∧ Hid (∀ j (hj : j < l.length), j < i → sameH l[j].1 ctM = false ∧ sameH l[j].1 cteM = false) ∧ Hid (FieK w w4.heap.size (.slice ao n cap) l p (.slice a1 nf c1) X Y (.slice a2 n2 c2) D (.slice a3 n3 c3) wr)) (fun iv _ => n - (intOf iv).toNat)
                case atStart => exact ⟨0, by omega, rfl, Lib.hid (fun j _ h => by omega), K5⟩
                case round =>
                  obtain ⟨i, hi, rfl, hg, hk⟩ := hrel
                  clear K5 x0 x1 x2 x3 x4 x5
                  by_cases hlt : i < n
                  · have hil : i < l.length := by rw [Hn.out]; exact hlt
                    have Hz : Hid (∀ W, Below w.heap.size w W → ∃ g off, ao = some ⟨g, off, none⟩ ∧ W.cell? ⟨g, off + i * 2, none⟩ = some (.string (textQ l[i].1))) := Lib.hid fun W hW => by
                      obtain ⟨ao2, cap2, e, _, _, h4⟩ := HA.out W hW
                      cases e
                      obtain ⟨g, off, q1, _, q3, _⟩ := h4 i hil
                      exact ⟨g, off, q1, q3⟩
                    have hsml := Hfew.out.small _ (List.getElem_mem hil)
                    have Hnx : Hid (sameH l[i].1 ctM = false → sameH l[i].1 cteM = false → ∀ j (hj : j < l.length), j < i + 1 → sameH l[j].1 ctM = false ∧ sameH l[j].1 cteM = false) := Lib.hid fun h1 h2 j hj h3 => by
                      rcases Nat.lt_or_ge j i with h4 | h4
                      · exact hg.out j hj h4
                      · obtain rfl : j = i := by omega
                        exact ⟨h1, h2⟩
                    obtain ⟨N, hN⟩ : ∃ N, textQ l[i].1 = N := ⟨_, rfl⟩
                    have hNd : N.data.toList = l[i].1 := by rw [← hN]; rfl
                    have hNs : N.size ≤ 8000 := by rw [← hN]; exact hsml.1
                    rw [hN] at Hz
                    obtain ⟨g, off, rfl, z0⟩ := Hz.out wr hk.out.b
                    have c1' := (HSS.out.1 N hNs).out wr
                    have c2' := HSS.out.2 N hNs
                    rw [hNd] at c1' c2'
                    obtain ⟨f1, hf1⟩ : ∃ b, sameH l[i].1 ctM = b := ⟨_, rfl⟩
                    obtain ⟨f2, hf2⟩ : ∃ b, sameH l[i].1 cteM = b := ⟨_, rfl⟩
                    rw [hf1] at c1' Hnx
                    rw [hf2] at c2' Hnx
                    clear hg hNd hN hNs hsml hil hf1 hf2
                    cases f1 with
                    | true =>
                      go_wp2_with fail
                      refine c1'.mono ?_
                      rintro e w6 ⟨rfl, hb⟩
                      have K6 := Lib.hid (hk.out.step hb)
                      clear c1' hb hk z0 Hnx
                      go_wp2
                      go_ret
                      exact ⟨rfl, K6.out.b⟩
                    | false =>
                      go_wp2_with fail
                      refine c1'.mono ?_
                      rintro e w6 ⟨rfl, hb⟩
                      have K6 := Lib.hid (hk.out.step hb)
                      obtain ⟨g', off', e', z1⟩ := Hz.out w6 K6.out.b
                      cases e'
                      have d1 := c2'.out w6
                      clear c1' c2' hb hk z0
                      cases f2 with
                      | true =>
                        go_wp2_with fail
                        refine d1.mono ?_
                        rintro e w7 ⟨rfl, hb⟩
                        have K7 := Lib.hid (K6.out.step hb)
                        clear d1 hb K6 z1 Hnx
                        go_wp2
                        go_ret
                        exact ⟨rfl, K7.out.b⟩
                      | false =>
                        have Hg2 := Lib.hid (Hnx.out (by first | rfl | trivial) (by first | rfl | trivial))
                        clear Hnx
                        go_wp2_with fail
                        refine d1.mono ?_
                        rintro e w7 ⟨rfl, hb⟩
                        have K7 := Lib.hid (K6.out.step hb)
                        clear d1 hb K6 z1
                        go_wp2
                        go_roundw
                        case rel => exact ⟨i + 1, by omega, by go_num, Hg2, K7⟩
                        case measure => simp [intOf]; omega
                  · obtain rfl : i = n := by omega
                    have h9 := hq.out (fun f hf => by
                      obtain ⟨j, hj, rfl⟩ := List.mem_iff_getElem.1 hf
                      exact hg.out j hj (by rw [← Hn.out]; exact hj)) wr hk.out.b
                    have hT2i := Hnum.out.2.2.2.1
                    have hTle : TQ.size - 2 ≤ TQ.size := by omega
                    have hT2n : (0 : Int) ≤ ((TQ.size - 2 : Nat) : Int) := by omega
                    clear hg
                    go_wp2_with fail
                    rw [HS.out.1]
                    refine h9.mono ?_
                    rintro e w6 ⟨a4, c4, a5, n5, c5, a6, n6, c6, rfl, g1, g2, hx⟩
                    obtain ⟨w7, hw7⟩ : ∃ W, w6.alloc (.cells #[.slice a4 tot c4, .string X, .string Y, .slice a5 n5 c5, .string D, .slice a6 n6 c6] 29) = W := ⟨_, rfl⟩
                    have K7 : Hid (FieK w w4.heap.size (.slice ao i cap) l p (.slice a1 nf c1) X Y (.slice a2 n2 c2) D (.slice a3 n3 c3) w7 ∧ PrtAt w7 w6.heap.size (.slice a4 tot c4) (.string X) (.string Y) (.slice a5 n5 c5) (.string D) (.slice a6 n6 c6) ∧ TreeAt w7 w6.heap.size (.mk (l ++ p.fields) p.typ p.body p.parts) (.slice a4 tot c4) (.slice a5 n5 c5) (.slice a6 n6 c6)) := Lib.hid (by
                      obtain ⟨k1, k2⟩ := hx.out
                      have l7 : Below w6.heap.size w6 w7 := by rw [← hw7]; exact (Below.refl _ _).alloc (Nat.le_refl _) _
                      exact ⟨(hk.out.step k2).step l7, by rw [← hw7]; exact prt_new w6 _ _ _ _ _ _, k1.below l7 (Nat.le_refl _)⟩)
                    have HB6 : Hid (w.heap.size ≤ w6.heap.size ∧ w4.heap.size < w6.heap.size) := Lib.hid (by
                      have h1 := hk.out.a.lt
                      have h2 := hx.out.2.size
                      have h3 := hk.out.b.size
                      omega)
                    obtain ⟨x0, x1, x2, x3, x4, x5, _⟩ := K7.out.1.a.cells
                    obtain ⟨y0, y1, y2, y3, y4, y5, u0, u1, u2, u3, u4, u5⟩ := K7.out.2.1.cells
                    have hwn2 : IntKind.i64.wrap ((i : Int) + (nf : Int)) = (tot : Int) := by rw [Hnum.out.2.1, Hnum.out.2.2.1]
                    have hic : i ≤ c4 := by have := Hnum.out.2.2.1; omega
                    have hit : i ≤ tot := by have := Hnum.out.2.2.1; omega
                    unfold maxLen at g2
                    have h10 : Calls Tryz.prog 20 #[.slice a4 i c4, .slice ao i cap] w7 fun e w' => e = .returned (.bool true) ∧ Below w7.heap.size w7 w' := by
                      have f1 := FieldsAt.up (fields_first K7.out.2.2.f) (Nat.le_of_lt K7.out.2.1.lt)
                      rw [Hn.out] at f1
                      have f2 := FieldsAt.up (HA.out w7 K7.out.1.b) K7.out.1.b.size
                      have := r10fields_any w7.heap.size (.slice a4 i c4) (.slice ao i cap) l l w7 f1 f2 (Nat.le_refl _)
                      rw [decide_eq_true rfl] at this
                      exact this
                    clear h9 hx hk hq hT2i hTle hT2n
                    go_wp2_with fail
                    refine h10.mono ?_
                    rintro e w8 ⟨rfl, hb⟩
                    have K8 := Lib.hid (And.intro (K7.out.1.step hb) (And.intro (K7.out.2.1.below hb) (K7.out.2.2.below hb (Nat.le_of_lt K7.out.2.1.lt))))
                    obtain ⟨x0, x1, x2, x3, x4, x5, -⟩ := K8.out.1.a.cells
                    obtain ⟨y0, y1, y2, y3, y4, y5, u0, u1, u2, u3, u4, u5⟩ := K8.out.2.1.cells
                    clear h10 hb K7
                    have Hlast : Hid (∀ V, FieldsAt w8 w6.heap.size V p.fields → PrtAt (w8.setCell ⟨w6.heap.size, 0, none⟩ V) w4.heap.size (.slice a1 nf c1) (.string X) (.string Y) (.slice a2 n2 c2) (.string D) (.slice a3 n3 c3) ∧ PrtAt (w8.setCell ⟨w6.heap.size, 0, none⟩ V) w6.heap.size V (.string X) (.string Y) (.slice a5 n5 c5) (.string D) (.slice a6 n6 c6) ∧
                        Calls Tryz.prog 19 #[.agg #[.slice a1 nf c1, .string X, .string Y, .slice a2 n2 c2, .string D, .slice a3 n3 c3], .agg #[V, .string X, .string Y, .slice a5 n5 c5, .string D, .slice a6 n6 c6]] (w8.setCell ⟨w6.heap.size, 0, none⟩ V) fun e w' => e = .returned (.bool true) ∧ Below w.heap.size w w') := Lib.hid fun V hV => by
                      obtain ⟨k1, k2, k3⟩ := K8.out
                      have hset : ∀ {P : Nat → Prop}, (∀ g, P g → g < w6.heap.size) → StayP w8 P (w8.setCell ⟨w6.heap.size, 0, none⟩ V) P := fun h => stay_set (fun g hg => by have := h g hg; omega) V
                      have hbw : Below w.heap.size w (w8.setCell ⟨w6.heap.size, 0, none⟩ V) := k1.b.setCell (p := ⟨w6.heap.size, 0, none⟩) (by have := k1.b.size; have := HB6.out.1; show w.heap.size ≤ w6.heap.size; omega) _
                      have hzz : (w8.setCell ⟨w6.heap.size, 0, none⟩ V).heap.size = w8.heap.size := by simp [World.setCell]
                      refine ⟨(Below.heap_setCell w8 ⟨w6.heap.size, 0, none⟩ V w4.heap.size (by have := HB6.out.2; show w4.heap.size ≠ w6.heap.size; omega)).trans k1.a, k2.fields V, ?_⟩
                      have t1 : TreeAt (w8.setCell ⟨w6.heap.size, 0, none⟩ V) w6.heap.size p (.slice a1 nf c1) (.slice a2 n2 c2) (.slice a3 n3 c3) := (k1.t.up (by have := HB6.out.2; omega)).to (hset fun g h => h)
                      have t2 : TreeAt (w8.setCell ⟨w6.heap.size, 0, none⟩ V) w6.heap.size p V (.slice a5 n5 c5) (.slice a6 n6 c6) := ⟨FieldsP.to (fields_ofAt hV) (hset fun g h => h), k3.t.to (hset fun g h => h), k3.r.to (hset fun g h => h)⟩
                      have := msame_any w6.heap.size (countM p) p (Nat.le_refl _) p _ _ _ _ _ _ _ t1 t2 (by have := k2.lt; rw [hzz]; omega)
                      rw [decide_eq_true rfl] at this
                      unfold partV at this
                      rw [HX.out.1, HX.out.2.1, HX.out.2.2.1] at this
                      exact this.mono fun e w' ⟨h1, h2⟩ => ⟨h1, hbw.trans (h2.mono hbw.size)⟩
                    by_cases hcc : c4 = i
                    · obtain rfl : tot = i := by omega
                      subst hcc
                      have hnf0 : p.fields = [] := List.eq_nil_of_length_eq_zero (by have := HX.out.2.2.2; have := Hnum.out.2.2.1; omega)
                      have hlast := Hlast.out (.slice a4 0 0) (by rw [hnf0]; exact fields_none _ _ _)
                      obtain ⟨q1, q2, q3⟩ := hlast
                      obtain ⟨k0, k1, k2, k3, k4, k5, -⟩ := q1.cells
                      obtain ⟨j0, j1, j2, j3, j4, j5, -⟩ := q2.cells
                      clear Hlast q1 q2
                      go_wp2_with fail
                      refine q3.mono ?_
                      rintro e w9 ⟨rfl, hb⟩
                      have B9 := Lib.hid hb
                      clear q3 hb
                      go_wp2
                      go_ret
                      exact ⟨rfl, B9.out⟩
                    · have hci : (i : Int) < (c4 : Int) := by omega
                      have hcn : i < c4 := by omega
                      have hlast := Hlast.out (.slice (a4.map fun x => x.add (i * 2)) (tot - i) (c4 - i)) (fields_rest K8.out.2.2.f Hn.out)
                      obtain ⟨q1, q2, q3⟩ := hlast
                      obtain ⟨k0, k1, k2, k3, k4, k5, -⟩ := q1.cells
                      obtain ⟨j0, j1, j2, j3, j4, j5, -⟩ := q2.cells
                      clear Hlast q1 q2
                      go_wp2_with fail
                      refine q3.mono ?_
                      rintro e w9 ⟨rfl, hb⟩
                      have B9 := Lib.hid hb
                      clear q3 hb
                      go_wp2
                      go_ret
                      exact ⟨rfl, B9.out⟩
          · have hei : ((er : Int) != 0) = true := by simpa using he
            go_wp2
            go_ret
            exact ⟨rfl, K5.out.b⟩
        · have hci : ((c : Int) != 0) = true := by simpa using hc
          go_wp2
          go_ret
          exact ⟨rfl, K5.out.b⟩
end Go.Proofs.YtidlpdiephlkhaaGreatDoor
