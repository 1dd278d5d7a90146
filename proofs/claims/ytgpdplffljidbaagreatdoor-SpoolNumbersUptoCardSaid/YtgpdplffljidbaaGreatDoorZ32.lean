/-
  Texts of this proof, put together: SpF, SpG, SpH.
-/
import Derived.Test.YtgpdplffljidbaaGreatDoorZ31
import Derived.Test.YtgpdplffljidbaaGreatDoorZ06
import Derived.Deep.RegionHeldLaw
namespace Go.Proofs.YtgpdplffljidbaaGreatDoor
open Go.RowKit

set_option maxRecDepth 100000 in
set_option maxHeartbeats 1000000 in
theorem sput_any (x : ItemS) (n : Nat) (w : World) (hx : x.id = (n : Int)) (h : n ≤ 99999999) (hr : rightS x = true) (ht : PowIs w) : Calls Tryz.prog 32 #[itemV x] w fun e w' => e = .returned (chV (keyS n) (textS x) false) ∧ Below w.heap.size w w' := by
  have hpr := fun W => sprint_any x hr W
  have hky := fun W (hW : Below w.heap.size w W) => skey_any n W h (pow_below ht hW)
  unfold itemV at hpr ⊢
  unfold chV
  rw [hx] at hpr ⊢
  obtain ⟨F, hF⟩ : ∃ F, textQ x.fr = F := ⟨_, rfl⟩
  obtain ⟨O, hO⟩ : ∃ F, textQ x.to = F := ⟨_, rfl⟩
  obtain ⟨X, hX⟩ : ∃ F, textQ x.tx = F := ⟨_, rfl⟩
  obtain ⟨K, hK⟩ : ∃ K, textQ (keyS n) = K := ⟨_, rfl⟩
  obtain ⟨V, hV⟩ : ∃ V, textQ (textS x) = V := ⟨_, rfl⟩
  rw [hF, hO, hX, hV] at hpr
  rw [hF, hO, hX, hK, hV]
  rw [hK] at hky
  obtain ⟨w1, hw1⟩ : ∃ w1, (w.alloc (.cells #[.int .i64 (n : Int), .string F, .string O, .string X, .int .i64 x.b, .int .i64 x.t, .int .i64 x.d] 44)).alloc (.cells #[.string ⟨#[]⟩, .string ⟨#[]⟩, .bool false] 50) = w1 := ⟨_, rfl⟩
  have b1 : Below w.heap.size w w1 := by rw [← hw1]; exact ((Below.refl _ _).alloc (Nat.le_refl _) _).alloc (by simp) _
  have z1 : w1.heap.size = w.heap.size + 2 := by rw [← hw1]; simp
  have p1 : ItAt w1 w.heap.size n F O X x.b x.t x.d := by
    rw [← hw1]
    exact (it_new w _ _ _ _ _ _ _).below ((Below.refl _ _).alloc (Nat.le_refl _) _)
  have h1 : w1.heap[w.heap.size + 1]? = some (.cells #[.string ⟨#[]⟩, .string ⟨#[]⟩, .bool false] 50 (0, 0)) := by
    rw [← hw1]
    have := heap_alloc_new (w.alloc (.cells #[.int .i64 (n : Int), .string F, .string O, .string X, .int .i64 x.b, .int .i64 x.t, .int .i64 x.d] 44)) (.cells #[.string ⟨#[]⟩, .string ⟨#[]⟩, .bool false] 50)
    rw [World.size_alloc] at this
    exact this
  obtain ⟨y0, y1, y2, y3, y4, y5, y6, _⟩ := p1.cells
  have hp1 := hpr w1
  have K1 := Lib.hid (And.intro b1 (And.intro p1 (And.intro h1 z1)))
  have HK := Lib.hid hky
  clear hpr hky hF hO hX hK hV b1 p1 h1 z1 hr ht h hx
  go_enter Tryz.func32, Tryz.ntmps32
  go_wp2_with fail
  refine hp1.mono ?_
  rintro e w2 ⟨rfl, hb⟩
  have K2 := Lib.hid (And.intro (K1.out.1.trans (hb.mono K1.out.1.size)) hb)
  have hk2 := HK.out w2 K2.out.1
  clear hp1 hb y0 y1 y2 y3 y4 y5 y6
  obtain ⟨y0, y1, y2, y3, y4, y5, y6, _⟩ := (K1.out.2.1.below K2.out.2).cells
  go_wp2_with fail
  refine hk2.mono ?_
  rintro e w3 ⟨rfl, hb⟩
  have b3 := K2.out.2.trans (hb.mono K2.out.2.size)
  have h2 := (b3.block _ (by have := K1.out.2.2.2; omega)).trans K1.out.2.2.1
  have c0 := Lib.cell_of_heap h2 0
  have c1 := Lib.cell_of_heap h2 1
  have c2 := Lib.cell_of_heap h2 2
  have f0 := Lib.frozen_of_heap h2 0
  have f1 := Lib.frozen_of_heap h2 1
  have f2 := Lib.frozen_of_heap h2 2
  have h3 := heap_setCell_same w3 (w.heap.size + 1) 0 _ _ (.string K) h2
  have h4 := heap_setCell_same _ (w.heap.size + 1) 1 _ _ (.string V) h3
  have h5 := heap_setCell_same _ (w.heap.size + 1) 2 _ _ (.bool false) h4
  have e0 := Lib.cell_of_heap h5 0
  have e1 := Lib.cell_of_heap h5 1
  have e2 := Lib.cell_of_heap h5 2
  have Fin := Lib.hid ((((K2.out.1.trans (hb.mono K2.out.1.size)).setCell (p := ⟨w.heap.size + 1, 0, none⟩) (by show w.heap.size ≤ w.heap.size + 1; omega) (.string K)).setCell (p := ⟨w.heap.size + 1, 1, none⟩) (by show w.heap.size ≤ w.heap.size + 1; omega) (.string V)).setCell (p := ⟨w.heap.size + 1, 2, none⟩) (by show w.heap.size ≤ w.heap.size + 1; omega) (.bool false))
  clear hk2 hb b3 h2 h3 h4 h5 hw1 y0 y1 y2 y3 y4 y5 y6
  go_wp2
  refine bodyPost_ret (v := .agg #[.string K, .string V, .bool false]) (by simp [results, Tryz.f32, go_sem, e0, e1, e2]) rfl ?_
  exact ⟨rfl, Fin.out⟩
end Go.Proofs.YtgpdplffljidbaaGreatDoor
namespace Go.Proofs.YtgpdplffljidbaaGreatDoor
open Go.RowKit

theorem Turned.setS {S : Nat → Prop} {W W' : World} {j N : Nat} {v : Value} (h : Turned S W W') (hN : S N) : Turned S W (W'.setCell ⟨N, j, none⟩ v) := h.trans (Turned.set hN) fun _ h => .inl h
def takeSp (k : Nat) (o : Bool) (s : List UInt8) : Bool × List UInt8 × List UInt8 := if k ≤ s.length then (o, s.drop k, s.take k) else (false, [], [])

theorem extract_textS (s : List UInt8) (i j : Nat) : (textQ s).extract i j = textQ ((s.drop i).take (j - i)) := by
  refine ByteArray.ext (Array.toList_inj.1 ?_)
  rw [Lib.extract_data]
  rfl

set_option maxRecDepth 100000 in
set_option maxHeartbeats 2000000 in
theorem stake_any (a b k : Nat) (o : Bool) (s : List UInt8) (_hs : s.length ≤ 1000000000) (hk : k ≤ 1000000000) (hab : a ≠ b) (w : World) (ha : Boxed w a 9 (.string (textQ s))) (hb : Boxed w b 4 (.bool o)) :
    Calls Tryz.prog 51 #[.int .i64 (k : Int), .pointer (some ⟨a, 0, none⟩), .pointer (some ⟨b, 0, none⟩)] w fun e w' => e = .returned (.string (textQ (takeSp k o s).2.2)) ∧ Boxed w' a 9 (.string (textQ (takeSp k o s).2.1)) ∧ Boxed w' b 4 (.bool (takeSp k o s).1) ∧ Turned (fun x => x = a ∨ x = b) w w' := by
  obtain ⟨S, hS⟩ : ∃ S, textQ s = S := ⟨_, rfl⟩
  have hsz : S.size = s.length := by rw [← hS]; rfl
  rw [hS] at ha
  have ca := ha.cell
  have fa := ha.frozen
  have cb := hb.cell
  have fb := hb.frozen
  have H := Lib.hid (And.intro ha (And.intro hb hS))
  clear ha hb hS
  by_cases hks : k ≤ s.length
  · have g1 : ¬ ((S.size : Int) < (k : Int)) := by omega
    have g2 : k ≤ S.size := by omega
    clear hks
    go_enter Tryz.func51, Tryz.ntmps51
    go_wp2
    --@a
    obtain ⟨ha, hb, hS⟩ := H.out
    have e1 : S.extract 0 k = textQ (s.take k) := by rw [← hS, extract_textS, List.drop_zero, Nat.sub_zero]
    have e2 : S.extract k s.length = textQ (s.drop k) := by rw [← hS, extract_textS, List.take_of_length_le (by rw [List.length_drop]; omega)]
    go_ret
    unfold takeSp
    rw [if_pos (by omega)]
    rw [e2]
    refine ⟨?_, ha.set _, hb.other (Ne.symm hab) _, (Turned.refl _ _).setS (.inl rfl)⟩
    show Ending.returned (Value.string (S.extract 0 k)) = _
    rw [e1]
  · have g1 : (S.size : Int) < (k : Int) := by omega
    go_enter Tryz.func51, Tryz.ntmps51
    go_wp2
    --@b
    obtain ⟨ha, hb, hS⟩ := H.out
    go_ret
    unfold takeSp
    rw [if_neg hks]
    exact ⟨rfl, (ha.other hab _).set _, (hb.set _).other (Ne.symm hab) _, ((Turned.refl _ _).setS (.inr rfl)).setS (.inl rfl)⟩

theorem enter_take : ∀ args w, (callFunc 51 args).run Tryz.prog w = .ok (.enter 51 args) w := enters_of Tryz.func51 (by kernel_rfl) rfl
theorem enter_tnum : ∀ args w, (callFunc 52 args).run Tryz.prog w = .ok (.enter 52 args) w := enters_of Tryz.func52 (by kernel_rfl) rfl
theorem enter_tpart : ∀ args w, (callFunc 54 args).run Tryz.prog w = .ok (.enter 54 args) w := enters_of Tryz.func54 (by kernel_rfl) rfl
structure TakeSt (W : World) (L a b c : Nat) (s : List UInt8) : Prop where
  s : Boxed W a 9 (.string (textQ s))
  o : Boxed W b 4 (.bool true)
  f : Boxed W c 82 (.func (.func 51) #[] #[.pointer (some ⟨a, 0, none⟩), .pointer (some ⟨b, 0, none⟩)])
  ap : a ≠ b ∧ a ≠ c ∧ b ≠ c
  lo : L ≤ a ∧ L ≤ b ∧ L ≤ W.heap.size
theorem stake_st {W : World} {L a b c : Nat} {s : List UInt8} (h : TakeSt W L a b c s) (k : Nat) (hk : k ≤ s.length) (hs : s.length ≤ 1000000) :
    Calls Tryz.prog 51 #[.int .i64 (k : Int), .pointer (some ⟨a, 0, none⟩), .pointer (some ⟨b, 0, none⟩)] W fun e W' => e = .returned (.string (textQ (s.take k))) ∧ TakeSt W' L a b c (s.drop k) ∧ Turned (fun x => x = a ∨ x = b) W W' := by
  refine (stake_any a b k true s (by omega) (by omega) h.ap.1 W h.s h.o).mono ?_
  have e : takeSp k true s = (true, s.drop k, s.take k) := by
    unfold takeSp
    rw [if_pos hk]
  rw [e]
  rintro e W' ⟨rfl, h1, h2, t⟩
  exact ⟨rfl, ⟨h1, h2, t.heap h.f (fun e => by have := h.ap; omega), h.ap, h.lo.1, h.lo.2.1, Nat.le_trans h.lo.2.2 t.size⟩, t⟩

set_option maxRecDepth 100000 in
set_option maxHeartbeats 2000000 in
theorem stnum_st {W : World} {L a b c : Nat} {s : List UInt8} (h : TakeSt W L a b c s) (hk : 8 ≤ s.length) (hs : s.length ≤ 1000000) (hn : numS (s.take 8) < 2 ^ 55) :
    Calls Tryz.prog 52 #[.pointer (some ⟨c, 0, none⟩)] W fun e W' => e = .returned (.int .i64 (numS (s.take 8) : Int)) ∧ TakeSt W' L a b c (s.drop 8) ∧ Turned (fun x => x = a ∨ x = b) W W' := by
  have ht := stake_st h 8 hk hs
  rw [show ((8 : Nat) : Int) = 8 from rfl] at ht
  have cf := h.f.cell
  have et := enter_take
  have hnum := fun W => snum_any (textQ (s.take 8)) W (by show (s.take 8).length ≤ 1000; rw [List.length_take]; omega) hn
  rw [show (textQ (s.take 8)).data.toList = s.take 8 from rfl] at hnum
  obtain ⟨T, hT⟩ : ∃ T, textQ (s.take 8) = T := ⟨_, rfl⟩
  rw [hT] at ht hnum
  clear h hk hs hn hT
  go_enter Tryz.func52, Tryz.ntmps52
  go_wp2_with fail
  refine ht.mono ?_
  rintro e w1 ⟨rfl, h1, hb⟩
  have K1 := Lib.hid (And.intro h1 hb)
  have hn1 := hnum w1
  clear ht h1 hb hnum cf
  go_wp2_with fail
  refine hn1.mono ?_
  rintro e w2 ⟨rfl, rfl⟩
  go_wp2
  go_ret
  exact ⟨rfl, K1.out⟩
end Go.Proofs.YtgpdplffljidbaaGreatDoor
namespace Go.Proofs.YtgpdplffljidbaaGreatDoor
open Go.RowKit

set_option maxRecDepth 100000 in
set_option maxHeartbeats 2000000 in
theorem stpart_st {W : World} {L a b c : Nat} {p r : List UInt8} (h : TakeSt W L a b c (partS p ++ r)) (hp : p.length ≤ 16384) (hs : (partS p ++ r).length ≤ 1000000) :
    Calls Tryz.prog 54 #[.pointer (some ⟨c, 0, none⟩)] W fun e W' => e = .returned (.string (textQ p)) ∧ TakeSt W' L a b c r ∧ Turned (fun x => x = a ∨ x = b) W W' := by
  have hl : (partS p ++ r).length = (partS p).length + r.length := List.length_append
  have hl2 : (partS p).length = 2 + p.length := by unfold partS; rw [List.length_append, be_lenS]
  have ht := stake_st (h := (show TakeSt W.drew L a b c (partS p ++ r) from ⟨h.s, h.o, h.f, h.ap, h.lo⟩)) 2 (by omega) hs
  have e1 : (partS p ++ r).take 2 = beS 2 p.length := by unfold partS; rw [List.append_assoc]; exact List.take_left' (be_lenS 2 _)
  have e2 : (partS p ++ r).drop 2 = p ++ r := by unfold partS; rw [List.append_assoc]; exact List.drop_left' (be_lenS 2 _)
  rw [e1, e2, show ((2 : Nat) : Int) = 2 from rfl] at ht
  have hnb : numS (beS 2 p.length) = p.length := num_backS (by omega)
  have hnum := fun V => snum_any (textQ (beS 2 p.length)) V (by show (beS 2 p.length).length ≤ 1000; rw [be_lenS]; omega) (by rw [show (textQ (beS 2 p.length)).data.toList = beS 2 p.length from rfl, hnb]; omega)
  rw [show (textQ (beS 2 p.length)).data.toList = beS 2 p.length from rfl, hnb] at hnum
  have ht2 := fun V (hV : TakeSt V L a b c (p ++ r)) => stake_st hV p.length (by rw [List.length_append]; omega) (by rw [List.length_append]; omega)
  rw [List.take_left, List.drop_left] at ht2
  have cf := h.f.cell
  have et := enter_take
  obtain ⟨T, hT⟩ : ∃ T, textQ (beS 2 p.length) = T := ⟨_, rfl⟩
  obtain ⟨P, hP⟩ : ∃ P, textQ p = P := ⟨_, rfl⟩
  obtain ⟨n, hn⟩ : ∃ n, p.length = n := ⟨_, rfl⟩
  rw [hT] at ht hnum
  rw [hP] at ht2 ⊢
  rw [hn] at ht2 hnum
  have Ht := Lib.hid ht
  have Hn := Lib.hid hnum
  have H2 := Lib.hid ht2
  clear hl hl2 h hp hs e1 e2 hnb hT hP hn ht hnum ht2
  go_enter Tryz.func54, Tryz.ntmps54
  go_wp2_with fail
  refine wp_region_held_drew (S := (fun W => W.cell? ⟨c, 0, none⟩ = some (.func (.func 51) #[] #[.pointer (some ⟨a, 0, none⟩), .pointer (some ⟨b, 0, none⟩)]))) (by kernel_rfl) cf (fun hHeld => ?_)
  refine' wpAnyH_take (i := 0) (v := ?v0p) ?hi0p (by kernel_rfl) (by kernel_rfl) (by kernel_rfl) ?hq0p (Or.inl ⟨?hw0p, ?hy0p⟩) (by assumption) ?hr0p
  case hi0p => (simp only [List.getElem?_toArray, List.getElem?_cons_zero]; exact rfl)
  case hq0p => exact fun _ _ _ h => h
  case hw0p => rfl
  case hy0p =>
    intro wz hz
    (try dsimp only at hz)
    go_simp
    all_goals with_reducible rfl
  try simp only [Act.put, List.setIfInBounds_toArray, List.set_cons_zero, List.set_cons_succ]
  refine' wpAnyH_take (i := 1) (v := ?v1p) ?hi1p (by kernel_rfl) (by kernel_rfl) (by kernel_rfl) ?hq1p (Or.inl ⟨?hw1p, ?hy1p⟩) (by assumption) ?hr1p
  case hi1p => (simp only [List.getElem?_toArray, List.getElem?_cons_zero, List.getElem?_cons_succ]; exact rfl)
  case hq1p => exact fun _ _ _ h => h
  case hw1p => rfl
  case hy1p =>
    intro wz hz
    (try dsimp only at hz)
    go_simp
    all_goals with_reducible rfl
  try simp only [Act.put, List.setIfInBounds_toArray, List.set_cons_zero, List.set_cons_succ]
  refine wpAnyH_ready (rs := [2]) (by kernel_rfl) (by simp) ?_
  refine AllReadyH.cons (o := ?hoa) ?hioa (fun Ka hKa => ?hsa) AllReadyH.nil
  case hioa => (simp only [List.getElem?_toArray, List.getElem?_cons_zero, List.getElem?_cons_succ]; exact rfl)
  case hsa =>
    go_simp
    refine Ht.out.mono ?_
    rintro e w1 ⟨rfl, h1, hb1⟩
    have L1 := Lib.hid (And.intro h1 ((Turned.drew (S := fun x => x = a ∨ x = b)).trans hb1 fun _ h => .inl h))
    have cf1 := h1.f.cell
    clear h1 hb1
    refine hKa.out _ _ cf1 (fun hHelda => ?_)
    try simp only [Act.put, List.setIfInBounds_toArray, List.set_cons_zero, List.set_cons_succ]
    refine wpAnyH_ready (rs := [3]) (by kernel_rfl) (by simp) ?_
    refine AllReadyH.cons (o := ?hob) ?hiob (fun Kb hKb => ?hsb) AllReadyH.nil
    case hiob => (simp only [List.getElem?_toArray, List.getElem?_cons_zero, List.getElem?_cons_succ]; exact rfl)
    case hsb =>
      go_simp
      refine (Hn.out w1).mono ?_
      rintro e w2 ⟨rfl, rfl⟩
      refine hKb.out _ _ cf1 (fun hHeldb => ?_)
      try simp only [Act.put, List.setIfInBounds_toArray, List.set_cons_zero, List.set_cons_succ]
      refine wpAnyH_ready (rs := [4]) (by kernel_rfl) (by simp) ?_
      refine AllReadyH.cons (o := ?hoc) ?hioc (fun Kc hKc => ?hsc) AllReadyH.nil
      case hioc => (simp only [List.getElem?_toArray, List.getElem?_cons_zero, List.getElem?_cons_succ]; exact rfl)
      case hsc =>
        go_simp
        refine (H2.out _ L1.out.1).mono ?_
        rintro e w3 ⟨rfl, h3, hb3⟩
        have L3 := Lib.hid (And.intro h3 (L1.out.2.trans hb3 fun _ h => .inl h))
        have cf3 := h3.f.cell
        clear h3 hb3
        refine hKc.out _ _ cf3 (fun hHeldc => ?_)
        try simp only [Act.put, List.setIfInBounds_toArray, List.set_cons_zero, List.set_cons_succ]
        refine' wpAnyH_take (i := 5) (v := ?v5c) ?hi5c (by kernel_rfl) (by kernel_rfl) (by kernel_rfl) ?hq5c (Or.inl ⟨?hw5c, ?hy5c⟩) (by assumption) ?hr5c
        case hi5c => (simp only [List.getElem?_toArray, List.getElem?_cons_zero, List.getElem?_cons_succ]; exact rfl)
        case hq5c => exact fun _ _ _ h => h
        case hw5c => rfl
        case hy5c =>
          intro wz hz
          (try dsimp only at hz)
          go_simp
          all_goals with_reducible rfl
        try simp only [Act.put, List.setIfInBounds_toArray, List.set_cons_zero, List.set_cons_succ]
        refine wpAnyH_done (by kernel_rfl) ?_ _
        clear Ht Hn H2 cf cf1 cf3
        go_wp2
        go_ret
        exact ⟨rfl, L3.out⟩
end Go.Proofs.YtgpdplffljidbaaGreatDoor
