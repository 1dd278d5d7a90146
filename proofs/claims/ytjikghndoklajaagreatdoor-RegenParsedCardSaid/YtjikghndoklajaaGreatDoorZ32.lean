/-
  Texts of this proof, put together: MmC.
-/
import Derived.Test.YtjikghndoklajaaGreatDoorZ31
import Derived.Test.YtjikghndoklajaaGreatDoorZ16
import Derived.Test.YtjikghndoklajaaGreatDoorZ24
namespace Go.Proofs.YtjikghndoklajaaGreatDoor
open Go.RowKit

inductive OneM where
  | bad (c : Int)
  | leaf (p : TreeM)
  | multi (p : TreeM) (l : List TextH)
def oneM (s : TextH) : OneM :=
  if (parseH s).2 ≠ 0 then .bad (parseH s).2 else match typM (parseH s).1.1 with
  | none => .bad 2
  | some t => match codT (parseH s).1.1 with
    | none => .bad 2
    | some c => if t.1 = multiM then (match textsT c (parseH s).1.2 t with
      | none => .bad 2
      | some l => .multi (.mk (parseH s).1.1 t [] []) l) else match leafT c (parseH s).1.2 with
      | none => .bad 2
      | some b => .leaf (.mk (parseH s).1.1 t b [])
def badV (c : Int) : Value := .tuple #[.agg #[.slice none 0 0, .string ⟨#[]⟩, .string ⟨#[]⟩, .slice none 0 0, .string ⟨#[]⟩, .slice none 0 0], .slice none 0 0, .int .i64 c]
def OnePost (o : OneM) (w : World) (e : Ending) (w' : World) : Prop := Below w.heap.size w w' ∧ match o with
  | .bad c => e = .returned (badV c)
  | .leaf p => ∃ fv pv, e = .returned (.tuple #[partV p fv pv (.slice none 0 0), .slice none 0 0, .int .i64 0]) ∧ FieldsP w' (fun g => w.heap.size ≤ g) fv p.fields ∧ ParsP w' (fun g => w.heap.size ≤ g) pv p.typ.2.2
  | .multi p l => ∃ fv pv b c, e = .returned (.tuple #[partV p fv pv (.slice none 0 0), .slice (some ⟨b, 0, none⟩) l.length c, .int .i64 0]) ∧ FieldsP w' (fun g => w.heap.size ≤ g) fv p.fields ∧ ParsP w' (fun g => w.heap.size ≤ g) pv p.typ.2.2 ∧
      l.length ≤ c ∧ c ≤ maxLen ∧ (w.heap.size ≤ b ∧ b < w'.heap.size) ∧ ∀ i (h : i < l.length), w'.cell? ⟨b, i, none⟩ = some (.string (textQ l[i]))

set_option maxRecDepth 100000 in
set_option maxHeartbeats 16000000 in
theorem mreadone_any (s : ByteArray) (m : Int) (w : World) (hs : s.size ≤ 90000) (hm : w.cell? ⟨0, 0, none⟩ = some (.int .i64 m)) :
    Calls Tryz.prog 15 #[.string s] w (OnePost (oneM s.data.toList) w) := by
  obtain ⟨w1, hw1⟩ : ∃ w1, w.alloc (.cells #[.slice none 0 0, .string ⟨#[]⟩, .string ⟨#[]⟩, .slice none 0 0, .string ⟨#[]⟩, .slice none 0 0] 29) = w1 := ⟨_, rfl⟩
  have b1 : Below w.heap.size w w1 := by rw [← hw1]; exact (Below.refl _ _).alloc (Nat.le_refl _) _
  have z1 : w.heap.size < w1.heap.size := by rw [← hw1]; simp
  have p1 : PrtAt w1 w.heap.size (.slice none 0 0) (.string ⟨#[]⟩) (.string ⟨#[]⟩) (.slice none 0 0) (.string ⟨#[]⟩) (.slice none 0 0) := by rw [← hw1]; exact prt_new w _ _ _ _ _ _
  have hm1 := (b1.cell (p := ⟨0, 0, none⟩) (cell_ltP hm)).trans hm
  have hsl : s.data.toList.length = s.size := rfl
  have hpar : Calls Tryz.prog 22 #[.string s] w1 fun e w' => ∃ ao cap, e = .returned (.tuple #[.slice ao (parseH s.data.toList).1.1.length cap, .string (textQ (parseH s.data.toList).1.2), .int .i64 (parseH s.data.toList).2]) ∧ FieldsOwn w' w1.heap.size (.slice ao (parseH s.data.toList).1.1.length cap) (parseH s.data.toList).1.1 ∧ Below w1.heap.size w1 w' := (hparse_any s m w1 (by omega) hm1).mono fun e w' ⟨v, h1, h2, h3⟩ => by
    obtain ⟨ao, cap, rfl⟩ := row_slice h2
    exact ⟨ao, cap, h1, h2, h3⟩
  obtain ⟨hsm, hrs⟩ := parse_small s.data.toList
  have K1 := Lib.hid (And.intro (And.intro b1 p1) hm1)
  obtain ⟨O, hO⟩ : ∃ O, oneM s.data.toList = O := ⟨_, rfl⟩
  rw [hO]
  unfold oneM at hO
  rw [hsl] at hsm hrs
  have hgm : 0 ≠ w.heap.size := by have := cell_ltP hm; omega
  clear b1 p1 hm hm1 hsl
  obtain ⟨A, hA⟩ : ∃ A, parseH s.data.toList = A := ⟨_, rfl⟩
  rw [hA] at hpar hO hsm hrs
  clear hA
  obtain ⟨⟨fs, rest⟩, code⟩ := A
  replace hpar : Calls Tryz.prog 22 #[.string s] w1 fun e w' => ∃ ao cap, e = .returned (.tuple #[.slice ao fs.length cap, .string (textQ rest), .int .i64 code]) ∧ FieldsOwn w' w1.heap.size (.slice ao fs.length cap) fs ∧ Below w1.heap.size w1 w' := hpar
  replace hsm : ∀ f ∈ fs, f.1.length ≤ s.size ∧ f.2.length ≤ s.size := hsm
  replace hrs : rest.length ≤ s.size := hrs
  replace hO : (if code ≠ 0 then OneM.bad code else match typM fs with
    | none => .bad 2
    | some t => match codT fs with
      | none => .bad 2
      | some c => if t.1 = multiM then (match textsT c rest t with
        | none => .bad 2
        | some l => .multi (.mk fs t [] []) l) else match leafT c rest with
        | none => .bad 2
        | some b => .leaf (.mk fs t b [])) = O := hO
  obtain ⟨n, hn⟩ : ∃ n, fs.length = n := ⟨_, rfl⟩
  obtain ⟨Q, hQ⟩ : ∃ Q, textQ rest = Q := ⟨_, rfl⟩
  rw [hn, hQ] at hpar
  have HQ := Lib.hid (And.intro (And.intro hn hQ) (And.intro hsm hrs))
  clear hn hQ hsm hrs
  by_cases hc : code = 0
  · subst hc
    rw [if_neg (by simp)] at hO
    have hsmF : SmallF 1000000 fs := fun f hf => by have := HQ.out.2.1 f hf; omega
    cases htq : typM fs with
    | none =>
      rw [htq] at hO
      have HO : Hid (O = .bad 2) := Lib.hid hO.symm
      have htr : typR fs = (([], [], []), 2) := by unfold typR; rw [htq]
      clear hO
      go_enter Tryz.func15, Tryz.ntmps15
      go_wp2_with fail
      refine hpar.mono ?_
      rintro e w2 ⟨ao, cap, rfl, ho, hb⟩
      have K2 := Lib.hid (And.intro (K1.out.1.1.trans (hb.mono (by omega))) (K1.out.1.2.below hb))
      have z2 : w.heap.size < w2.heap.size := by have := hb.size; omega
      have htyp : Calls Tryz.prog 23 #[.slice ao n cap] w2 fun e w' => (∃ bo k kap, e = .returned (.tuple #[.agg #[.string ⟨#[]⟩, .string ⟨#[]⟩, .slice bo k kap], .int .i64 2])) ∧ Below w2.heap.size w2 w' := (mtypeof_any w2.heap.size _ fs w2 ho.at (Nat.le_refl _) hsmF).mono fun e w' ⟨u, h1, h2, h3⟩ => by
        obtain ⟨bo, kap, rfl⟩ := own_slice h2
        exact ⟨⟨bo, _, kap, by rw [h1, htr]; rfl⟩, h3⟩
      clear hpar ho hb K1 hsmF htr htq
      go_wp2_with fail
      refine htyp.mono ?_
      rintro e w3 ⟨⟨bo, k, kap, rfl⟩, hb⟩
      obtain ⟨w4, hw4⟩ : ∃ w4, w3.alloc (.cells #[.string ⟨#[]⟩, .string ⟨#[]⟩, .slice bo k kap] 26) = w4 := ⟨_, rfl⟩
      have b4 : Below w3.heap.size w3 w4 := by rw [← hw4]; exact (Below.refl _ _).alloc (Nat.le_refl _) _
      have hz3 := hb.size
      have K4 := Lib.hid (And.intro ((K2.out.1.trans (hb.mono (by omega))).trans (b4.mono (by omega))) ((K2.out.2.below hb).below b4))
      clear htyp hb b4 K2
      have pz := K4.out.2
      obtain ⟨y0, y1, y2, y3, y4, y5, v0, v1, v2, v3, v4, v5⟩ := pz.cells
      have pk := (pz.put (.slice none 0 0) (.string ⟨#[]⟩) (.string ⟨#[]⟩) (.slice none 0 0) (.string ⟨#[]⟩) (.slice none 0 0)).cells
      unfold putP at pk
      obtain ⟨k0, k1, k2, k3, k4, k5, _⟩ := pk
      have Bl := Lib.hid (below_putP (K4.out.1) (Nat.le_refl w.heap.size) (.slice none 0 0) (.string ⟨#[]⟩) (.string ⟨#[]⟩) (.slice none 0 0) (.string ⟨#[]⟩) (.slice none 0 0))
      clear pz
      clear K4
      go_wp2
      refine bodyPost_ret (v := badV 2) (by simp [badV, results, Tryz.f15, go_sem, k0, k1, k2, k3, k4, k5]) rfl ?_
      rw [HO.out]
      exact ⟨Bl.out, rfl⟩
    | some t =>
      rw [htq] at hO
      have htr : typR fs = (t, 0) := by unfold typR; rw [htq]
      have hvals := typ_vals htq
      obtain ⟨X, hX⟩ : ∃ X, textQ t.1 = X := ⟨_, rfl⟩
      obtain ⟨Y, hY⟩ : ∃ Y, textQ t.2.1 = Y := ⟨_, rfl⟩
      obtain ⟨np, hnp⟩ : ∃ np, t.2.2.length = np := ⟨_, rfl⟩
      have hXl : X.toList = t.1 := by rw [← hX, Lib.toList_data]; rfl
      have HT := Lib.hid (And.intro hX (And.intro hY hnp))
      have htyp : Hid (∀ W ao cap, FieldsOwn W w1.heap.size (.slice ao n cap) fs → Calls Tryz.prog 23 #[.slice ao n cap] W fun e w' => ∃ bo kap, e = .returned (.tuple #[.agg #[.string X, .string Y, .slice bo np kap], .int .i64 0]) ∧ ParsOwn w' W.heap.size (.slice bo np kap) t.2.2 ∧ Below W.heap.size W w') := Lib.hid fun W ao cap ho => (mtypeof_any W.heap.size _ fs W ho.at (Nat.le_refl _) hsmF).mono fun e w' ⟨u, h1, h2, h3⟩ => by
        rw [htr] at h1 h2
        obtain ⟨bo, kap, rfl⟩ := own_slice h2
        refine ⟨bo, kap, ?_, ?_, h3⟩
        · rw [h1, ← hX, ← hY, ← hnp]
          rfl
        · rw [← hnp]
          exact h2
      have hcod : Hid (∀ W v, FieldsAt W W.heap.size v fs → Calls Tryz.prog 24 #[v] W fun e w' => e = .returned (codV (codT fs)) ∧ Below W.heap.size W w') := Lib.hid fun W v h => mcodof_any W.heap.size v fs W h (Nat.le_refl _) hsmF
      have HV := Lib.hid hvals
      clear hsmF htq htr hX hY hnp hvals
      have hstart : Hid (∀ (w2 : World) ao cap, FieldsOwn w2 w1.heap.size (.slice ao n cap) fs → Below w1.heap.size w1 w2 → ∀ w3 bo kap, ParsOwn w3 w2.heap.size (.slice bo np kap) t.2.2 → Below w2.heap.size w2 w3 → ∀ w4, w3.alloc (.cells #[.string X, .string Y, .slice bo np kap] 26) = w4 → ∀ w5, Below w4.heap.size w4 w5 →
          (Below w.heap.size w w5 ∧ w5.cell? ⟨0, 0, none⟩ = some (.int .i64 m)) ∧ PrtAt w5 w.heap.size (.slice none 0 0) (.string ⟨#[]⟩) (.string ⟨#[]⟩) (.slice none 0 0) (.string ⟨#[]⟩) (.slice none 0 0) ∧ TypAt w5 w3.heap.size X Y bo np kap ∧ FieldsP w5 (fun g => w1.heap.size ≤ g ∧ g < w3.heap.size) (.slice ao n cap) fs ∧ ParsP w5 (fun g => w1.heap.size ≤ g ∧ g < w3.heap.size) (.slice bo np kap) t.2.2 ∧ w1.heap.size ≤ w3.heap.size ∧ w3.heap.size < w5.heap.size) := Lib.hid fun w2 ao cap ho hb w3 bo kap hp hb2 w4 hw4 w5 hb5 => by
        have b4 : Below w3.heap.size w3 w4 := by rw [← hw4]; exact (Below.refl _ _).alloc (Nat.le_refl _) _
        have z4 : w3.heap.size < w4.heap.size := by rw [← hw4]; simp
        have t4 : TypAt w4 w3.heap.size X Y bo np kap := by rw [← hw4]; exact typ_new w3 _ _ _ _ _
        have s1 := hb.size
        have s2 := hb2.size
        have s5 := hb5.size
        have b35 : Below w3.heap.size w3 w5 := b4.trans (hb5.mono (by omega))
        have b25 : Below w2.heap.size w2 w5 := hb2.trans (b35.mono (by omega))
        have b15 : Below w1.heap.size w1 w5 := hb.trans (b25.mono (by omega))
        have ff : FieldsP w2 (fun g => w1.heap.size ≤ g) (.slice ao n cap) fs := FieldsOwn.new ho
        have pp : ParsP w3 (fun g => w2.heap.size ≤ g) (.slice bo np kap) t.2.2 := ParsOwn.new hp
        have hbw : Below w.heap.size w w5 := K1.out.1.1.trans (b15.mono (by omega))
        refine ⟨⟨hbw, ?_⟩, K1.out.1.2.below b15, t4.below hb5, ff.to (fun g hg hl => ⟨⟨hg, by omega⟩, fun j => b25.cell (p := ⟨g, j, none⟩) hl⟩), pp.to (fun g hg hl => ⟨⟨by omega, hl⟩, fun j => b35.cell (p := ⟨g, j, none⟩) hl⟩), by omega, by omega⟩
        exact (b15.cell (p := ⟨0, 0, none⟩) (cell_ltP K1.out.2)).trans K1.out.2
      cases hcq : codT fs with
      | none =>
        rw [hcq] at hO
        have HO : Hid (O = .bad 2) := Lib.hid hO.symm
        clear hO
        go_enter Tryz.func15, Tryz.ntmps15
        go_wp2_with fail
        refine hpar.mono ?_
        rintro e w2 ⟨ao, cap, rfl, ho, hb⟩
        have htyp2 := htyp.out w2 ao cap ho
        have hs2 := Lib.hid (hstart.out w2 ao cap ho hb)
        have hb2 := Lib.hid (And.intro ho hb)
        clear hpar htyp hstart ho hb
        go_wp2_with fail
        refine htyp2.mono ?_
        rintro e w3 ⟨bo, kap, rfl, hp, hb⟩
        obtain ⟨w4, hw4⟩ : ∃ w4, w3.alloc (.cells #[.string X, .string Y, .slice bo np kap] 26) = w4 := ⟨_, rfl⟩
        have b4 : Below w3.heap.size w3 w4 := by rw [← hw4]; exact (Below.refl _ _).alloc (Nat.le_refl _) _
        have hs4 := Lib.hid (hs2.out w3 bo kap hp hb w4 hw4)
        have hcod4 : Calls Tryz.prog 24 #[.slice ao n cap] w4 fun e w' => e = .returned (.tuple #[.string ⟨#[]⟩, .int .i64 2]) ∧ Below w4.heap.size w4 w' := by
          have hf3 : FieldsAt w4 w4.heap.size (.slice ao n cap) fs := by
            have h2 : FieldsAt w2 w2.heap.size (.slice ao n cap) fs := hb2.out.1.at
            have h3 := h2.below hb (Nat.le_refl _)
            exact (h3.below b4 hb.size).up (Nat.le_trans hb.size b4.size)
          have := hcod.out w4 (.slice ao n cap) hf3
          rw [hcq] at this
          exact this
        clear htyp2 hs2 hcod hb2 hp hb b4
        go_wp2_with fail
        refine hcod4.mono ?_
        rintro e w5 ⟨rfl, hb⟩
        have K5 := Lib.hid (hs4.out w5 hb)
        clear hcod4 hs4 hb hw4
        have pz := K5.out.2.1
        obtain ⟨y0, y1, y2, y3, y4, y5, v0, v1, v2, v3, v4, v5⟩ := pz.cells
        have pk := (pz.put (.slice none 0 0) (.string ⟨#[]⟩) (.string ⟨#[]⟩) (.slice none 0 0) (.string ⟨#[]⟩) (.slice none 0 0)).cells
        unfold putP at pk
        obtain ⟨k0, k1, k2, k3, k4, k5, _⟩ := pk
        have Bl := Lib.hid (below_putP (K5.out.1.1) (Nat.le_refl w.heap.size) (.slice none 0 0) (.string ⟨#[]⟩) (.string ⟨#[]⟩) (.slice none 0 0) (.string ⟨#[]⟩) (.slice none 0 0))
        clear pz
        clear K5 hcq
        go_wp2
        refine bodyPost_ret (v := badV 2) (by simp [badV, results, Tryz.f15, go_sem, k0, k1, k2, k3, k4, k5]) rfl ?_
        rw [HO.out]
        exact ⟨Bl.out, rfl⟩
      | some c =>
        rw [hcq] at hO
        obtain ⟨C, hC⟩ : ∃ C, textQ c = C := ⟨_, rfl⟩
        have hQs : Q.size ≤ 90000 := by
          have := HQ.out.2.2
          rw [← HQ.out.1.2]
          show rest.length ≤ _
          omega
        have hQd : Q.data.toList = rest := by rw [← HQ.out.1.2]; rfl
        by_cases hmu : t.1 = multiM
        · replace hO : (if t.1 = multiM then (match textsT c rest t with
            | none => OneM.bad 2
            | some l => .multi (.mk fs t [] []) l) else match leafT c rest with
            | none => .bad 2
            | some b => .leaf (.mk fs t b [])) = O := hO
          rw [if_pos hmu] at hO
          have hq : (X.toList == [109, 117, 108, 116, 105, 112, 97, 114, 116]) = true := by rw [hXl, hmu]; rfl
          clear hXl hmu
          cases hxq : textsT c rest t with
          | none =>
            rw [hxq] at hO
            have HO : Hid (O = .bad 2) := Lib.hid hO.symm
            clear hO
            go_enter Tryz.func15, Tryz.ntmps15
            go_wp2_with fail
            refine hpar.mono ?_
            rintro e w2 ⟨ao, cap, rfl, ho, hb⟩
            have htyp2 := htyp.out w2 ao cap ho
            have hs2 := Lib.hid (hstart.out w2 ao cap ho hb)
            have hb2 := Lib.hid (And.intro ho hb)
            clear hpar htyp hstart ho hb
            go_wp2_with fail
            refine htyp2.mono ?_
            rintro e w3 ⟨bo, kap, rfl, hp, hb⟩
            obtain ⟨w4, hw4⟩ : ∃ w4, w3.alloc (.cells #[.string X, .string Y, .slice bo np kap] 26) = w4 := ⟨_, rfl⟩
            have b4 : Below w3.heap.size w3 w4 := by rw [← hw4]; exact (Below.refl _ _).alloc (Nat.le_refl _) _
            have hs4 := Lib.hid (hs2.out w3 bo kap hp hb w4 hw4)
            have hcod4 : Calls Tryz.prog 24 #[.slice ao n cap] w4 fun e w' => e = .returned (.tuple #[.string C, .int .i64 0]) ∧ Below w4.heap.size w4 w' := by
              have hf3 : FieldsAt w4 w4.heap.size (.slice ao n cap) fs := by
                have h2 : FieldsAt w2 w2.heap.size (.slice ao n cap) fs := hb2.out.1.at
                have h3 := h2.below hb (Nat.le_refl _)
                exact (h3.below b4 hb.size).up (Nat.le_trans hb.size b4.size)
              have := hcod.out w4 (.slice ao n cap) hf3
              rw [hcq, show codV (some c) = .tuple #[.string (textQ c), .int .i64 0] from rfl, hC] at this
              exact this
            clear htyp2 hs2 hcod hb2 hp hb b4
            go_wp2_with fail
            refine hcod4.mono ?_
            rintro e w5 ⟨rfl, hb⟩
            have K5 := Lib.hid (hs4.out w5 hb)
            clear hcod4 hs4 hb hw4
            obtain ⟨w6, hw6⟩ : ∃ w6, ((((((w5.setCell ⟨w.heap.size, 0, none⟩ (.slice ao n cap)).setCell ⟨w.heap.size, 1, none⟩ (.string X)).setCell ⟨w.heap.size, 2, none⟩ (.string Y)).setCell ⟨w.heap.size, 3, none⟩ (.slice bo np kap)).setCell ⟨w.heap.size, 4, none⟩ (.string ⟨#[]⟩)).setCell ⟨w.heap.size, 5, none⟩ (.slice none 0 0)) = w6 := ⟨_, rfl⟩
            obtain ⟨y0, y1, y2, y3, y4, y5, v0, v1, v2, v3, v4, v5⟩ := K5.out.2.1.cells
            obtain ⟨x0, x1, x2, x3, x4, x5⟩ := K5.out.2.2.1.cells
            have p6 : PrtAt w6 w.heap.size (.slice ao n cap) (.string X) (.string Y) (.slice bo np kap) (.string ⟨#[]⟩) (.slice none 0 0) := by rw [← hw6]; exact K5.out.2.1.put (.slice ao n cap) (.string X) (.string Y) (.slice bo np kap) (.string ⟨#[]⟩) (.slice none 0 0)
            have t6 : TypAt w6 w3.heap.size X Y bo np kap := by rw [← hw6]; exact (putP_block (w := w5) (B := w.heap.size) (k := w3.heap.size) (by have := K5.out.2.2.2.2.2.1; omega) (.slice ao n cap) (.string X) (.string Y) (.slice bo np kap) (.string ⟨#[]⟩) (.slice none 0 0)).trans K5.out.2.2.1
            have b6 : Below w.heap.size w w6 := by rw [← hw6]; exact below_putP K5.out.1.1 (Nat.le_refl _) (.slice ao n cap) (.string X) (.string Y) (.slice bo np kap) (.string ⟨#[]⟩) (.slice none 0 0)
            have z6 : w6.heap.size = w5.heap.size := by rw [← hw6]; exact putP_size w5 w.heap.size (.slice ao n cap) (.string X) (.string Y) (.slice bo np kap) (.string ⟨#[]⟩) (.slice none 0 0)
            have f6 : FieldsP w6 (fun g => w1.heap.size ≤ g ∧ g < w3.heap.size) (.slice ao n cap) fs := by rw [← hw6]; exact K5.out.2.2.2.1.to (stay_put (fun g hg => by omega) (.slice ao n cap) (.string X) (.string Y) (.slice bo np kap) (.string ⟨#[]⟩) (.slice none 0 0))
            have q6 : ParsP w6 (fun g => w1.heap.size ≤ g ∧ g < w3.heap.size) (.slice bo np kap) t.2.2 := by rw [← hw6]; exact K5.out.2.2.2.2.1.to (stay_put (fun g hg => by omega) (.slice ao n cap) (.string X) (.string Y) (.slice bo np kap) (.string ⟨#[]⟩) (.slice none 0 0))
            have hm6 : w6.cell? ⟨0, 0, none⟩ = some (.int .i64 m) := by rw [← hw6]; exact (cell_block (putP_block (w := w5) (B := w.heap.size) (k := 0) (by have := cell_ltP K1.out.2; have := hgm; omega) (.slice ao n cap) (.string X) (.string Y) (.slice bo np kap) (.string ⟨#[]⟩) (.slice none 0 0))).trans K5.out.1.2
            obtain ⟨g0, g1, g2, g3, g4, g5, e0, e1, e2, e3, e4, e5⟩ := p6.cells
            obtain ⟨h0, h1, h2, h3, h4, h5⟩ := t6.cells
            have hz5 := K5.out.2.2.2.2.2.2
            have hz3 := K5.out.2.2.2.2.2.1
            have htx : Calls Tryz.prog 25 #[.string Q, .agg #[.string X, .string Y, .slice bo np kap], .string C] w6 (DivPost (textsT c rest t) w6) := by
              have := mtextsof_any w6.heap.size _ Q t c m w6 q6.at (Nat.le_refl _) (by omega) (fun p hp => by have := (HV.out p hp).1; omega) hm6
              unfold typeV at this
              rw [HT.out.1, HT.out.2.1, hC, hQd] at this
              exact this
            rw [hxq] at htx
            have K6 := Lib.hid (And.intro b6 p6)
            clear K5 p6 t6 b6 f6 q6 hm6 hcq hxq hC hQd
            go_wp2_with fail
            refine htx.mono ?_
            rintro e w7 ⟨hb, rfl⟩
            have K7 := Lib.hid (And.intro (K6.out.1.trans (hb.mono (by omega))) (K6.out.2.below hb))
            clear htx hb K6 g0 g1 g2 g3 g4 g5 e0 e1 e2 e3 e4 e5 y0 y1 y2 y3 y4 y5 v0 v1 v2 v3 v4 v5
            have pz := K7.out.2
            obtain ⟨y0, y1, y2, y3, y4, y5, v0, v1, v2, v3, v4, v5⟩ := pz.cells
            have pk := (pz.put (.slice none 0 0) (.string ⟨#[]⟩) (.string ⟨#[]⟩) (.slice none 0 0) (.string ⟨#[]⟩) (.slice none 0 0)).cells
            unfold putP at pk
            obtain ⟨k0, k1, k2, k3, k4, k5, _⟩ := pk
            have Bl := Lib.hid (below_putP (K7.out.1) (Nat.le_refl w.heap.size) (.slice none 0 0) (.string ⟨#[]⟩) (.string ⟨#[]⟩) (.slice none 0 0) (.string ⟨#[]⟩) (.slice none 0 0))
            clear pz
            clear K7
            go_wp2
            refine bodyPost_ret (v := badV 2) (by simp [badV, results, Tryz.f15, go_sem, k0, k1, k2, k3, k4, k5]) rfl ?_
            rw [HO.out]
            exact ⟨Bl.out, rfl⟩
          | some ls =>
            rw [hxq] at hO
            have HO : Hid (O = .multi (.mk fs t [] []) ls) := Lib.hid hO.symm
            clear hO
            go_enter Tryz.func15, Tryz.ntmps15
            go_wp2_with fail
            refine hpar.mono ?_
            rintro e w2 ⟨ao, cap, rfl, ho, hb⟩
            have htyp2 := htyp.out w2 ao cap ho
            have hs2 := Lib.hid (hstart.out w2 ao cap ho hb)
            have hb2 := Lib.hid (And.intro ho hb)
            clear hpar htyp hstart ho hb
            go_wp2_with fail
            refine htyp2.mono ?_
            rintro e w3 ⟨bo, kap, rfl, hp, hb⟩
            obtain ⟨w4, hw4⟩ : ∃ w4, w3.alloc (.cells #[.string X, .string Y, .slice bo np kap] 26) = w4 := ⟨_, rfl⟩
            have b4 : Below w3.heap.size w3 w4 := by rw [← hw4]; exact (Below.refl _ _).alloc (Nat.le_refl _) _
            have hs4 := Lib.hid (hs2.out w3 bo kap hp hb w4 hw4)
            have hcod4 : Calls Tryz.prog 24 #[.slice ao n cap] w4 fun e w' => e = .returned (.tuple #[.string C, .int .i64 0]) ∧ Below w4.heap.size w4 w' := by
              have hf3 : FieldsAt w4 w4.heap.size (.slice ao n cap) fs := by
                have h2 : FieldsAt w2 w2.heap.size (.slice ao n cap) fs := hb2.out.1.at
                have h3 := h2.below hb (Nat.le_refl _)
                exact (h3.below b4 hb.size).up (Nat.le_trans hb.size b4.size)
              have := hcod.out w4 (.slice ao n cap) hf3
              rw [hcq, show codV (some c) = .tuple #[.string (textQ c), .int .i64 0] from rfl, hC] at this
              exact this
            clear htyp2 hs2 hcod hb2 hp hb b4
            go_wp2_with fail
            refine hcod4.mono ?_
            rintro e w5 ⟨rfl, hb⟩
            have K5 := Lib.hid (hs4.out w5 hb)
            clear hcod4 hs4 hb hw4
            obtain ⟨w6, hw6⟩ : ∃ w6, ((((((w5.setCell ⟨w.heap.size, 0, none⟩ (.slice ao n cap)).setCell ⟨w.heap.size, 1, none⟩ (.string X)).setCell ⟨w.heap.size, 2, none⟩ (.string Y)).setCell ⟨w.heap.size, 3, none⟩ (.slice bo np kap)).setCell ⟨w.heap.size, 4, none⟩ (.string ⟨#[]⟩)).setCell ⟨w.heap.size, 5, none⟩ (.slice none 0 0)) = w6 := ⟨_, rfl⟩
            obtain ⟨y0, y1, y2, y3, y4, y5, v0, v1, v2, v3, v4, v5⟩ := K5.out.2.1.cells
            obtain ⟨x0, x1, x2, x3, x4, x5⟩ := K5.out.2.2.1.cells
            have p6 : PrtAt w6 w.heap.size (.slice ao n cap) (.string X) (.string Y) (.slice bo np kap) (.string ⟨#[]⟩) (.slice none 0 0) := by rw [← hw6]; exact K5.out.2.1.put (.slice ao n cap) (.string X) (.string Y) (.slice bo np kap) (.string ⟨#[]⟩) (.slice none 0 0)
            have t6 : TypAt w6 w3.heap.size X Y bo np kap := by rw [← hw6]; exact (putP_block (w := w5) (B := w.heap.size) (k := w3.heap.size) (by have := K5.out.2.2.2.2.2.1; omega) (.slice ao n cap) (.string X) (.string Y) (.slice bo np kap) (.string ⟨#[]⟩) (.slice none 0 0)).trans K5.out.2.2.1
            have b6 : Below w.heap.size w w6 := by rw [← hw6]; exact below_putP K5.out.1.1 (Nat.le_refl _) (.slice ao n cap) (.string X) (.string Y) (.slice bo np kap) (.string ⟨#[]⟩) (.slice none 0 0)
            have z6 : w6.heap.size = w5.heap.size := by rw [← hw6]; exact putP_size w5 w.heap.size (.slice ao n cap) (.string X) (.string Y) (.slice bo np kap) (.string ⟨#[]⟩) (.slice none 0 0)
            have f6 : FieldsP w6 (fun g => w1.heap.size ≤ g ∧ g < w3.heap.size) (.slice ao n cap) fs := by rw [← hw6]; exact K5.out.2.2.2.1.to (stay_put (fun g hg => by omega) (.slice ao n cap) (.string X) (.string Y) (.slice bo np kap) (.string ⟨#[]⟩) (.slice none 0 0))
            have q6 : ParsP w6 (fun g => w1.heap.size ≤ g ∧ g < w3.heap.size) (.slice bo np kap) t.2.2 := by rw [← hw6]; exact K5.out.2.2.2.2.1.to (stay_put (fun g hg => by omega) (.slice ao n cap) (.string X) (.string Y) (.slice bo np kap) (.string ⟨#[]⟩) (.slice none 0 0))
            have hm6 : w6.cell? ⟨0, 0, none⟩ = some (.int .i64 m) := by rw [← hw6]; exact (cell_block (putP_block (w := w5) (B := w.heap.size) (k := 0) (by have := cell_ltP K1.out.2; have := hgm; omega) (.slice ao n cap) (.string X) (.string Y) (.slice bo np kap) (.string ⟨#[]⟩) (.slice none 0 0))).trans K5.out.1.2
            obtain ⟨g0, g1, g2, g3, g4, g5, e0, e1, e2, e3, e4, e5⟩ := p6.cells
            obtain ⟨h0, h1, h2, h3, h4, h5⟩ := t6.cells
            have hz5 := K5.out.2.2.2.2.2.2
            have hz3 := K5.out.2.2.2.2.2.1
            have htx : Calls Tryz.prog 25 #[.string Q, .agg #[.string X, .string Y, .slice bo np kap], .string C] w6 (DivPost (textsT c rest t) w6) := by
              have := mtextsof_any w6.heap.size _ Q t c m w6 q6.at (Nat.le_refl _) (by omega) (fun p hp => by have := (HV.out p hp).1; omega) hm6
              unfold typeV at this
              rw [HT.out.1, HT.out.2.1, hC, hQd] at this
              exact this
            rw [hxq] at htx
            have K6 := Lib.hid (And.intro (And.intro b6 p6) (And.intro f6 q6))
            clear K5 p6 t6 b6 f6 q6 hm6 hcq hxq hC hQd
            obtain ⟨nl, hnl⟩ : ∃ nl, ls.length = nl := ⟨_, rfl⟩
            have HL := Lib.hid hnl
            have htx2 : Calls Tryz.prog 25 #[.string Q, .agg #[.string X, .string Y, .slice bo np kap], .string C] w6 fun e w' => ∃ b k, e = .returned (.tuple #[.slice (some ⟨b, 0, none⟩) nl k, .int .i64 0]) ∧ Hid (Below w6.heap.size w6 w' ∧ nl ≤ k ∧ k ≤ maxLen ∧ (w.heap.size ≤ b ∧ b < w'.heap.size) ∧ b ≠ w.heap.size ∧ ∀ i (h : i < ls.length), w'.cell? ⟨b, i, none⟩ = some (.string (textQ ls[i]))) := htx.mono fun e w' ⟨q1, b, k, q2, q3, q4, q5, q6⟩ => by
              rw [hnl] at q2 q3
              exact ⟨b, k, q2, Lib.hid ⟨q1, q3, q4, ⟨by omega, q5.2⟩, by omega, q6⟩⟩
            clear htx hnl
            go_wp2_with fail
            refine htx2.mono ?_
            rintro e w7 ⟨b, k, rfl, hx⟩
            have K7 := Lib.hid (And.intro (K6.out.1.1.trans (hx.out.1.mono (by omega))) (K6.out.1.2.below hx.out.1))
            have F7 := Lib.hid (And.intro (K6.out.2.1.to (stay_all hx.out.1)) (K6.out.2.2.to (stay_all hx.out.1)))
            clear htx2 K6 g0 g1 g2 g3 g4 g5 e0 e1 e2 e3 e4 e5 y0 y1 y2 y3 y4 y5 v0 v1 v2 v3 v4 v5
            obtain ⟨g0, g1, g2, g3, g4, g5, e0, e1, e2, e3, e4, e5⟩ := K7.out.2.cells
            have pk := (K7.out.2.put (.slice ao n cap) (.string X) (.string Y) (.slice bo np kap) (.string ⟨#[]⟩) (.slice none 0 0)).cells
            unfold putP at pk
            obtain ⟨k0, k1, k2, k3, k4, k5, _⟩ := pk
            have Fin : Hid (OnePost O w (.returned (.tuple #[.agg #[.slice ao n cap, .string X, .string Y, .slice bo np kap, .string ⟨#[]⟩, .slice none 0 0], .slice (some ⟨b, 0, none⟩) nl k, .int .i64 0])) (putP w7 w.heap.size (.slice ao n cap) (.string X) (.string Y) (.slice bo np kap) (.string ⟨#[]⟩) (.slice none 0 0))) := Lib.hid (by
              rw [HO.out]
              refine ⟨below_putP K7.out.1 (Nat.le_refl _) (.slice ao n cap) (.string X) (.string Y) (.slice bo np kap) (.string ⟨#[]⟩) (.slice none 0 0), .slice ao n cap, .slice bo np kap, b, k, ?_, (F7.out.1.to (stay_put (fun g hg => by omega) (.slice ao n cap) (.string X) (.string Y) (.slice bo np kap) (.string ⟨#[]⟩) (.slice none 0 0))).to (stay_self fun g hg _ => by omega), (F7.out.2.to (stay_put (fun g hg => by omega) (.slice ao n cap) (.string X) (.string Y) (.slice bo np kap) (.string ⟨#[]⟩) (.slice none 0 0))).to (stay_self fun g hg _ => by omega), by rw [HL.out]; exact hx.out.2.1, hx.out.2.2.1, by rw [putP_size]; exact hx.out.2.2.2.1, fun i h => ?_⟩
              · rw [HL.out, ← HT.out.1, ← HT.out.2.1]
                rfl
              · exact (cell_block (putP_block hx.out.2.2.2.2.1 (.slice ao n cap) (.string X) (.string Y) (.slice bo np kap) (.string ⟨#[]⟩) (.slice none 0 0))).trans (hx.out.2.2.2.2.2 i h))
            clear K7
            go_wp2
            refine bodyPost_ret (v := .tuple #[.agg #[.slice ao n cap, .string X, .string Y, .slice bo np kap, .string ⟨#[]⟩, .slice none 0 0], .slice (some ⟨b, 0, none⟩) nl k, .int .i64 0]) (by simp [results, Tryz.f15, go_sem, k0, k1, k2, k3, k4, k5]) rfl ?_
            exact Fin.out
        · replace hO : (if t.1 = multiM then (match textsT c rest t with
            | none => OneM.bad 2
            | some l => .multi (.mk fs t [] []) l) else match leafT c rest with
            | none => .bad 2
            | some b => .leaf (.mk fs t b [])) = O := hO
          rw [if_neg hmu] at hO
          have hq : (X.toList == [109, 117, 108, 116, 105, 112, 97, 114, 116]) = false := by rw [hXl]; exact beq_eq_false_iff_ne.2 hmu
          clear hXl hmu
          cases hxq : leafT c rest with
          | none =>
            rw [hxq] at hO
            have HO : Hid (O = .bad 2) := Lib.hid hO.symm
            clear hO
            go_enter Tryz.func15, Tryz.ntmps15
            go_wp2_with fail
            refine hpar.mono ?_
            rintro e w2 ⟨ao, cap, rfl, ho, hb⟩
            have htyp2 := htyp.out w2 ao cap ho
            have hs2 := Lib.hid (hstart.out w2 ao cap ho hb)
            have hb2 := Lib.hid (And.intro ho hb)
            clear hpar htyp hstart ho hb
            go_wp2_with fail
            refine htyp2.mono ?_
            rintro e w3 ⟨bo, kap, rfl, hp, hb⟩
            obtain ⟨w4, hw4⟩ : ∃ w4, w3.alloc (.cells #[.string X, .string Y, .slice bo np kap] 26) = w4 := ⟨_, rfl⟩
            have b4 : Below w3.heap.size w3 w4 := by rw [← hw4]; exact (Below.refl _ _).alloc (Nat.le_refl _) _
            have hs4 := Lib.hid (hs2.out w3 bo kap hp hb w4 hw4)
            have hcod4 : Calls Tryz.prog 24 #[.slice ao n cap] w4 fun e w' => e = .returned (.tuple #[.string C, .int .i64 0]) ∧ Below w4.heap.size w4 w' := by
              have hf3 : FieldsAt w4 w4.heap.size (.slice ao n cap) fs := by
                have h2 : FieldsAt w2 w2.heap.size (.slice ao n cap) fs := hb2.out.1.at
                have h3 := h2.below hb (Nat.le_refl _)
                exact (h3.below b4 hb.size).up (Nat.le_trans hb.size b4.size)
              have := hcod.out w4 (.slice ao n cap) hf3
              rw [hcq, show codV (some c) = .tuple #[.string (textQ c), .int .i64 0] from rfl, hC] at this
              exact this
            clear htyp2 hs2 hcod hb2 hp hb b4
            go_wp2_with fail
            refine hcod4.mono ?_
            rintro e w5 ⟨rfl, hb⟩
            have K5 := Lib.hid (hs4.out w5 hb)
            clear hcod4 hs4 hb hw4
            obtain ⟨w6, hw6⟩ : ∃ w6, ((((((w5.setCell ⟨w.heap.size, 0, none⟩ (.slice ao n cap)).setCell ⟨w.heap.size, 1, none⟩ (.string X)).setCell ⟨w.heap.size, 2, none⟩ (.string Y)).setCell ⟨w.heap.size, 3, none⟩ (.slice bo np kap)).setCell ⟨w.heap.size, 4, none⟩ (.string ⟨#[]⟩)).setCell ⟨w.heap.size, 5, none⟩ (.slice none 0 0)) = w6 := ⟨_, rfl⟩
            obtain ⟨y0, y1, y2, y3, y4, y5, v0, v1, v2, v3, v4, v5⟩ := K5.out.2.1.cells
            obtain ⟨x0, x1, x2, x3, x4, x5⟩ := K5.out.2.2.1.cells
            have p6 : PrtAt w6 w.heap.size (.slice ao n cap) (.string X) (.string Y) (.slice bo np kap) (.string ⟨#[]⟩) (.slice none 0 0) := by rw [← hw6]; exact K5.out.2.1.put (.slice ao n cap) (.string X) (.string Y) (.slice bo np kap) (.string ⟨#[]⟩) (.slice none 0 0)
            have t6 : TypAt w6 w3.heap.size X Y bo np kap := by rw [← hw6]; exact (putP_block (w := w5) (B := w.heap.size) (k := w3.heap.size) (by have := K5.out.2.2.2.2.2.1; omega) (.slice ao n cap) (.string X) (.string Y) (.slice bo np kap) (.string ⟨#[]⟩) (.slice none 0 0)).trans K5.out.2.2.1
            have b6 : Below w.heap.size w w6 := by rw [← hw6]; exact below_putP K5.out.1.1 (Nat.le_refl _) (.slice ao n cap) (.string X) (.string Y) (.slice bo np kap) (.string ⟨#[]⟩) (.slice none 0 0)
            have z6 : w6.heap.size = w5.heap.size := by rw [← hw6]; exact putP_size w5 w.heap.size (.slice ao n cap) (.string X) (.string Y) (.slice bo np kap) (.string ⟨#[]⟩) (.slice none 0 0)
            have f6 : FieldsP w6 (fun g => w1.heap.size ≤ g ∧ g < w3.heap.size) (.slice ao n cap) fs := by rw [← hw6]; exact K5.out.2.2.2.1.to (stay_put (fun g hg => by omega) (.slice ao n cap) (.string X) (.string Y) (.slice bo np kap) (.string ⟨#[]⟩) (.slice none 0 0))
            have q6 : ParsP w6 (fun g => w1.heap.size ≤ g ∧ g < w3.heap.size) (.slice bo np kap) t.2.2 := by rw [← hw6]; exact K5.out.2.2.2.2.1.to (stay_put (fun g hg => by omega) (.slice ao n cap) (.string X) (.string Y) (.slice bo np kap) (.string ⟨#[]⟩) (.slice none 0 0))
            have hm6 : w6.cell? ⟨0, 0, none⟩ = some (.int .i64 m) := by rw [← hw6]; exact (cell_block (putP_block (w := w5) (B := w.heap.size) (k := 0) (by have := cell_ltP K1.out.2; have := hgm; omega) (.slice ao n cap) (.string X) (.string Y) (.slice bo np kap) (.string ⟨#[]⟩) (.slice none 0 0))).trans K5.out.1.2
            obtain ⟨g0, g1, g2, g3, g4, g5, e0, e1, e2, e3, e4, e5⟩ := p6.cells
            obtain ⟨h0, h1, h2, h3, h4, h5⟩ := t6.cells
            have hz5 := K5.out.2.2.2.2.2.2
            have hz3 := K5.out.2.2.2.2.2.1
            have htx : Calls Tryz.prog 26 #[.string Q, .string C] w6 fun e w' => e = .returned (decV (leafT c rest)) ∧ Below w6.heap.size w6 w' := by
              have := mdecode_any Q c m w6 hQs hm6
              rw [hC, hQd] at this
              exact this
            rw [hxq] at htx
            replace htx : Calls Tryz.prog 26 #[.string Q, .string C] w6 fun e w' => e = .returned (.tuple #[.string ⟨#[]⟩, .int .i64 2]) ∧ Below w6.heap.size w6 w' := htx
            have K6 := Lib.hid (And.intro b6 p6)
            clear K5 p6 t6 b6 f6 q6 hm6 hcq hxq hC hQd
            go_wp2_with fail
            refine htx.mono ?_
            rintro e w7 ⟨rfl, hb⟩
            have p7 := K6.out.2.below hb
            obtain ⟨w8, hw8⟩ : ∃ w8, w7.setCell ⟨w.heap.size, 4, none⟩ (.string ⟨#[]⟩) = w8 := ⟨_, rfl⟩
            have K8 := Lib.hid (show Below w.heap.size w w8 ∧ PrtAt w8 w.heap.size (.slice ao n cap) (.string X) (.string Y) (.slice bo np kap) (.string ⟨#[]⟩) (.slice none 0 0) from by rw [← hw8]; exact ⟨(K6.out.1.trans (hb.mono (by omega))).setCell (p := ⟨w.heap.size, 4, none⟩) (Nat.le_refl _) _, p7.body _⟩)
            clear g0 g1 g2 g3 g4 g5 e0 e1 e2 e3 e4 e5 y0 y1 y2 y3 y4 y5 v0 v1 v2 v3 v4 v5
            obtain ⟨g0, g1, g2, g3, g4, g5, e0, e1, e2, e3, e4, e5⟩ := p7.cells
            clear htx hb K6 p7
            have pz := K8.out.2
            obtain ⟨y0, y1, y2, y3, y4, y5, v0, v1, v2, v3, v4, v5⟩ := pz.cells
            have pk := (pz.put (.slice none 0 0) (.string ⟨#[]⟩) (.string ⟨#[]⟩) (.slice none 0 0) (.string ⟨#[]⟩) (.slice none 0 0)).cells
            unfold putP at pk
            obtain ⟨k0, k1, k2, k3, k4, k5, _⟩ := pk
            have Bl := Lib.hid (below_putP (K8.out.1) (Nat.le_refl w.heap.size) (.slice none 0 0) (.string ⟨#[]⟩) (.string ⟨#[]⟩) (.slice none 0 0) (.string ⟨#[]⟩) (.slice none 0 0))
            clear pz
            clear K8
            go_wp2
            refine bodyPost_ret (v := badV 2) (by simp [badV, results, Tryz.f15, go_sem, k0, k1, k2, k3, k4, k5]) rfl ?_
            rw [HO.out]
            exact ⟨Bl.out, rfl⟩
          | some bd =>
            rw [hxq] at hO
            have HO : Hid (O = .leaf (.mk fs t bd [])) := Lib.hid hO.symm
            clear hO
            obtain ⟨D, hD⟩ : ∃ D, textQ bd = D := ⟨_, rfl⟩
            go_enter Tryz.func15, Tryz.ntmps15
            go_wp2_with fail
            refine hpar.mono ?_
            rintro e w2 ⟨ao, cap, rfl, ho, hb⟩
            have htyp2 := htyp.out w2 ao cap ho
            have hs2 := Lib.hid (hstart.out w2 ao cap ho hb)
            have hb2 := Lib.hid (And.intro ho hb)
            clear hpar htyp hstart ho hb
            go_wp2_with fail
            refine htyp2.mono ?_
            rintro e w3 ⟨bo, kap, rfl, hp, hb⟩
            obtain ⟨w4, hw4⟩ : ∃ w4, w3.alloc (.cells #[.string X, .string Y, .slice bo np kap] 26) = w4 := ⟨_, rfl⟩
            have b4 : Below w3.heap.size w3 w4 := by rw [← hw4]; exact (Below.refl _ _).alloc (Nat.le_refl _) _
            have hs4 := Lib.hid (hs2.out w3 bo kap hp hb w4 hw4)
            have hcod4 : Calls Tryz.prog 24 #[.slice ao n cap] w4 fun e w' => e = .returned (.tuple #[.string C, .int .i64 0]) ∧ Below w4.heap.size w4 w' := by
              have hf3 : FieldsAt w4 w4.heap.size (.slice ao n cap) fs := by
                have h2 : FieldsAt w2 w2.heap.size (.slice ao n cap) fs := hb2.out.1.at
                have h3 := h2.below hb (Nat.le_refl _)
                exact (h3.below b4 hb.size).up (Nat.le_trans hb.size b4.size)
              have := hcod.out w4 (.slice ao n cap) hf3
              rw [hcq, show codV (some c) = .tuple #[.string (textQ c), .int .i64 0] from rfl, hC] at this
              exact this
            clear htyp2 hs2 hcod hb2 hp hb b4
            go_wp2_with fail
            refine hcod4.mono ?_
            rintro e w5 ⟨rfl, hb⟩
            have K5 := Lib.hid (hs4.out w5 hb)
            clear hcod4 hs4 hb hw4
            obtain ⟨w6, hw6⟩ : ∃ w6, ((((((w5.setCell ⟨w.heap.size, 0, none⟩ (.slice ao n cap)).setCell ⟨w.heap.size, 1, none⟩ (.string X)).setCell ⟨w.heap.size, 2, none⟩ (.string Y)).setCell ⟨w.heap.size, 3, none⟩ (.slice bo np kap)).setCell ⟨w.heap.size, 4, none⟩ (.string ⟨#[]⟩)).setCell ⟨w.heap.size, 5, none⟩ (.slice none 0 0)) = w6 := ⟨_, rfl⟩
            obtain ⟨y0, y1, y2, y3, y4, y5, v0, v1, v2, v3, v4, v5⟩ := K5.out.2.1.cells
            obtain ⟨x0, x1, x2, x3, x4, x5⟩ := K5.out.2.2.1.cells
            have p6 : PrtAt w6 w.heap.size (.slice ao n cap) (.string X) (.string Y) (.slice bo np kap) (.string ⟨#[]⟩) (.slice none 0 0) := by rw [← hw6]; exact K5.out.2.1.put (.slice ao n cap) (.string X) (.string Y) (.slice bo np kap) (.string ⟨#[]⟩) (.slice none 0 0)
            have t6 : TypAt w6 w3.heap.size X Y bo np kap := by rw [← hw6]; exact (putP_block (w := w5) (B := w.heap.size) (k := w3.heap.size) (by have := K5.out.2.2.2.2.2.1; omega) (.slice ao n cap) (.string X) (.string Y) (.slice bo np kap) (.string ⟨#[]⟩) (.slice none 0 0)).trans K5.out.2.2.1
            have b6 : Below w.heap.size w w6 := by rw [← hw6]; exact below_putP K5.out.1.1 (Nat.le_refl _) (.slice ao n cap) (.string X) (.string Y) (.slice bo np kap) (.string ⟨#[]⟩) (.slice none 0 0)
            have z6 : w6.heap.size = w5.heap.size := by rw [← hw6]; exact putP_size w5 w.heap.size (.slice ao n cap) (.string X) (.string Y) (.slice bo np kap) (.string ⟨#[]⟩) (.slice none 0 0)
            have f6 : FieldsP w6 (fun g => w1.heap.size ≤ g ∧ g < w3.heap.size) (.slice ao n cap) fs := by rw [← hw6]; exact K5.out.2.2.2.1.to (stay_put (fun g hg => by omega) (.slice ao n cap) (.string X) (.string Y) (.slice bo np kap) (.string ⟨#[]⟩) (.slice none 0 0))
            have q6 : ParsP w6 (fun g => w1.heap.size ≤ g ∧ g < w3.heap.size) (.slice bo np kap) t.2.2 := by rw [← hw6]; exact K5.out.2.2.2.2.1.to (stay_put (fun g hg => by omega) (.slice ao n cap) (.string X) (.string Y) (.slice bo np kap) (.string ⟨#[]⟩) (.slice none 0 0))
            have hm6 : w6.cell? ⟨0, 0, none⟩ = some (.int .i64 m) := by rw [← hw6]; exact (cell_block (putP_block (w := w5) (B := w.heap.size) (k := 0) (by have := cell_ltP K1.out.2; have := hgm; omega) (.slice ao n cap) (.string X) (.string Y) (.slice bo np kap) (.string ⟨#[]⟩) (.slice none 0 0))).trans K5.out.1.2
            obtain ⟨g0, g1, g2, g3, g4, g5, e0, e1, e2, e3, e4, e5⟩ := p6.cells
            obtain ⟨h0, h1, h2, h3, h4, h5⟩ := t6.cells
            have hz5 := K5.out.2.2.2.2.2.2
            have hz3 := K5.out.2.2.2.2.2.1
            have htx : Calls Tryz.prog 26 #[.string Q, .string C] w6 fun e w' => e = .returned (decV (leafT c rest)) ∧ Below w6.heap.size w6 w' := by
              have := mdecode_any Q c m w6 hQs hm6
              rw [hC, hQd] at this
              exact this
            rw [hxq] at htx
            replace htx : Calls Tryz.prog 26 #[.string Q, .string C] w6 fun e w' => e = .returned (.tuple #[.string D, .int .i64 0]) ∧ Below w6.heap.size w6 w' := by rw [← hD]; exact htx
            have K6 := Lib.hid (And.intro (And.intro b6 p6) (And.intro f6 q6))
            have HD := Lib.hid hD
            clear K5 p6 t6 b6 f6 q6 hm6 hcq hxq hC hQd hD
            go_wp2_with fail
            refine htx.mono ?_
            rintro e w7 ⟨rfl, hb⟩
            have p7 := K6.out.1.2.below hb
            have F7 := Lib.hid (And.intro (K6.out.2.1.to (stay_all hb)) (K6.out.2.2.to (stay_all hb)))
            obtain ⟨w8, hw8⟩ : ∃ w8, w7.setCell ⟨w.heap.size, 4, none⟩ (.string D) = w8 := ⟨_, rfl⟩
            have K7 := Lib.hid (show Below w.heap.size w w8 ∧ PrtAt w8 w.heap.size (.slice ao n cap) (.string X) (.string Y) (.slice bo np kap) (.string D) (.slice none 0 0) from by rw [← hw8]; exact ⟨(K6.out.1.1.trans (hb.mono (by omega))).setCell (p := ⟨w.heap.size, 4, none⟩) (Nat.le_refl _) _, p7.body _⟩)
            have F8 := Lib.hid (show FieldsP w8 (fun g => w1.heap.size ≤ g ∧ g < w3.heap.size) (.slice ao n cap) fs ∧ ParsP w8 (fun g => w1.heap.size ≤ g ∧ g < w3.heap.size) (.slice bo np kap) t.2.2 from by rw [← hw8]; exact ⟨F7.out.1.to (stay_set (fun g hg => by omega) _), F7.out.2.to (stay_set (fun g hg => by omega) _)⟩)
            clear g0 g1 g2 g3 g4 g5 e0 e1 e2 e3 e4 e5 y0 y1 y2 y3 y4 y5 v0 v1 v2 v3 v4 v5
            obtain ⟨u0, u1, u2, u3, u4, u5, o0, o1, o2, o3, o4, o5⟩ := p7.cells
            clear htx hb K6 p7 F7
            obtain ⟨g0, g1, g2, g3, g4, g5, e0, e1, e2, e3, e4, e5⟩ := K7.out.2.cells
            have pk := (K7.out.2.put (.slice ao n cap) (.string X) (.string Y) (.slice bo np kap) (.string D) (.slice none 0 0)).cells
            unfold putP at pk
            obtain ⟨k0, k1, k2, k3, k4, k5, _⟩ := pk
            have Fin : Hid (OnePost O w (.returned (.tuple #[.agg #[.slice ao n cap, .string X, .string Y, .slice bo np kap, .string D, .slice none 0 0], .slice none 0 0, .int .i64 0])) (putP w8 w.heap.size (.slice ao n cap) (.string X) (.string Y) (.slice bo np kap) (.string D) (.slice none 0 0))) := Lib.hid (by
              rw [HO.out]
              refine ⟨below_putP K7.out.1 (Nat.le_refl _) (.slice ao n cap) (.string X) (.string Y) (.slice bo np kap) (.string D) (.slice none 0 0), .slice ao n cap, .slice bo np kap, ?_, (F8.out.1.to (stay_put (fun g hg => by omega) (.slice ao n cap) (.string X) (.string Y) (.slice bo np kap) (.string D) (.slice none 0 0))).to (stay_self fun g hg _ => by omega), (F8.out.2.to (stay_put (fun g hg => by omega) (.slice ao n cap) (.string X) (.string Y) (.slice bo np kap) (.string D) (.slice none 0 0))).to (stay_self fun g hg _ => by omega)⟩
              rw [← HT.out.1, ← HT.out.2.1, ← HD.out]
              rfl)
            clear K7
            go_wp2
            refine bodyPost_ret (v := .tuple #[.agg #[.slice ao n cap, .string X, .string Y, .slice bo np kap, .string D, .slice none 0 0], .slice none 0 0, .int .i64 0]) (by simp [results, Tryz.f15, go_sem, k0, k1, k2, k3, k4, k5]) rfl ?_
            exact Fin.out
  · rw [if_pos hc] at hO
    have HO : Hid (O = .bad code) := Lib.hid hO.symm
    have hcc : ((code : Int) != 0) = true := by simpa using hc
    clear hO hc
    go_enter Tryz.func15, Tryz.ntmps15
    go_wp2_with fail
    refine hpar.mono ?_
    rintro e w2 ⟨ao, cap, rfl, ho, hb⟩
    have K2 := Lib.hid (And.intro (K1.out.1.1.trans (hb.mono (by omega))) (K1.out.1.2.below hb))
    clear hpar ho hb K1
    have pz := K2.out.2
    obtain ⟨y0, y1, y2, y3, y4, y5, v0, v1, v2, v3, v4, v5⟩ := pz.cells
    have pk := (pz.put (.slice none 0 0) (.string ⟨#[]⟩) (.string ⟨#[]⟩) (.slice none 0 0) (.string ⟨#[]⟩) (.slice none 0 0)).cells
    unfold putP at pk
    obtain ⟨k0, k1, k2, k3, k4, k5, _⟩ := pk
    have Bl := Lib.hid (below_putP (K2.out.1) (Nat.le_refl w.heap.size) (.slice none 0 0) (.string ⟨#[]⟩) (.string ⟨#[]⟩) (.slice none 0 0) (.string ⟨#[]⟩) (.slice none 0 0))
    clear pz
    clear K2
    go_wp2
    refine bodyPost_ret (v := badV code) (by simp [badV, results, Tryz.f15, go_sem, k0, k1, k2, k3, k4, k5]) rfl ?_
    rw [HO.out]
    exact ⟨Bl.out, rfl⟩
end Go.Proofs.YtjikghndoklajaaGreatDoor
