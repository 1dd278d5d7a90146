/-
  Texts of this proof, put together: RgD.
-/
import Derived.Test.YtjikghndoklajaaGreatDoorZ41
import Derived.Test.YtjikghndoklajaaGreatDoorZ36
namespace Go.Proofs.YtjikghndoklajaaGreatDoor
open Go.RowKit
attribute [local go_sem ↓] Go.wp_at_zero Go.wp_at_succ

def SmallT (M : Nat) (t : TypeC) : Prop := t.1.length ≤ M ∧ t.2.1.length ≤ M ∧ ∀ x ∈ t.2.2, x.1.length ≤ M ∧ x.2.length ≤ M
theorem typ_grown {w w' : World} {B0 e size n N : Nat} {v : Value} {xs : List Value} {X Y : ByteArray} {ao : Option Addr} {k cap : Nat} (ho : w.ownsRow B0 e size v n xs) (h : TypAt w N X Y ao k cap) (hN : N < B0) (hg : w.grownBy w' v.ownBlock) : TypAt w' N X Y ao k cap :=
  (hg.block N h.lt (fun e => by have := (ho.lt N e.symm).1; omega)).trans h
def CopyQ (w w1 : World) (X Y : ByteArray) (a2 : Option Addr) (n2 c2 : Nat) (e : Exit) (a : Act) (W : World) : Prop := match e with
  | .normal => ∃ N, a = { tmps := #[.agg #[.string X, .string Y, .slice a2 n2 c2], .pointer (some ⟨w.heap.size, 0, none⟩), .pointer (some ⟨w.heap.size + 1, 0, none⟩), .pointer (some ⟨N, 0, none⟩), undef, undef, .pointer (some ⟨w.heap.size, 0, none⟩), .string X, .string X, .pointer (some ⟨w.heap.size, 1, none⟩), .string Y, .string Y, .agg #[.string X, .string Y, .slice none 0 0], undef, undef, undef, undef, undef, undef, undef, undef, undef, undef, undef, undef, undef, undef, undef, undef, undef, undef, undef, undef, undef], defers := [] } ∧ w1.heap.size ≤ N ∧ N < W.heap.size ∧ TypAt W N X Y none 0 0 ∧ Below w1.heap.size w1 W
  | _ => False

set_option maxRecDepth 100000 in
set_option maxHeartbeats 8000000 in
theorem gcopyt_any (B : Nat) (v : Value) (t : TypeC) (w : World) (h : ParsAt w B v t.2.2) (hB : B ≤ w.heap.size) (hs : SmallT 100000000 t) (hlen : t.2.2.length ≤ 1000000) :
    Calls Tryz.prog 54 #[typeV t v] w fun e w' => ∃ u, e = .returned (typeV t u) ∧ ParsOwn w' w.heap.size u t.2.2 ∧ Below w.heap.size w w' := by
  have HS := Lib.hid (And.intro hs (And.intro h hB))
  obtain ⟨a2, c2, rfl, hc2, hm2⟩ := h.slice
  unfold maxLen at hm2
  obtain ⟨n2, hn2⟩ : ∃ n2, t.2.2.length = n2 := ⟨_, rfl⟩
  obtain ⟨X, hX⟩ : ∃ X, textQ t.1 = X := ⟨_, rfl⟩
  obtain ⟨Y, hY⟩ : ∃ X, textQ t.2.1 = X := ⟨_, rfl⟩
  have sX : X.size ≤ 100000000 := by rw [← hX]; exact hs.1
  have sY : Y.size ≤ 100000000 := by rw [← hY]; exact hs.2.1
  unfold typeV
  rw [hn2] at hc2 hlen HS
  rw [hX, hY, hn2]
  obtain ⟨w1, hw1⟩ : ∃ w1, (w.alloc (.cells #[.string X, .string Y, .slice a2 n2 c2] 26)).alloc (.cells #[.string ⟨#[]⟩, .string ⟨#[]⟩, .slice none 0 0] 26) = w1 := ⟨_, rfl⟩
  have z1 : w1.heap.size = w.heap.size + 2 := by rw [← hw1]; simp
  have b1 : Below w.heap.size w w1 := by rw [← hw1]; exact ((Below.refl _ _).alloc (Nat.le_refl _) _).alloc (by simp) _
  have t1 : TypAt w1 w.heap.size X Y a2 n2 c2 := by
    rw [← hw1]
    exact (typ_new w _ _ _ _ _).below ((Below.refl _ _).alloc (Nat.le_refl _) _)
  have r1 : TypAt w1 (w.heap.size + 1) ⟨#[]⟩ ⟨#[]⟩ none 0 0 := by
    rw [← hw1]
    have := typ_new (w.alloc (.cells #[.string X, .string Y, .slice a2 n2 c2] 26)) ⟨#[]⟩ ⟨#[]⟩ none 0 0
    rw [World.size_alloc] at this
    exact this
  have hS : Hid (∀ W, Below w1.heap.size w1 W → W.cell? ⟨w.heap.size, 0, none⟩ = some (.string X) ∧ W.cell? ⟨w.heap.size, 1, none⟩ = some (.string Y) ∧ Below w1.heap.size w1 W) := Lib.hid fun W hW => by
    obtain ⟨q0, q1, _⟩ := (t1.below hW).cells
    exact ⟨q0, q1, hW⟩
  have hc : ∀ T (hT : T.size ≤ 100000000), Hid (∀ W, (W.cell? ⟨w.heap.size, 0, none⟩ = some (.string X) ∧ W.cell? ⟨w.heap.size, 1, none⟩ = some (.string Y) ∧ Below w1.heap.size w1 W) → Calls Tryz.prog 20 #[.string T] W fun e w' => e = .returned (.string T) ∧ (w'.cell? ⟨w.heap.size, 0, none⟩ = some (.string X) ∧ w'.cell? ⟨w.heap.size, 1, none⟩ = some (.string Y) ∧ Below w1.heap.size w1 w') ∧ Below W.heap.size W w') := fun T hT => Lib.hid fun W hW => by
    refine (sclone_any T W hT).mono ?_
    rintro e w' ⟨rfl, hb⟩
    exact ⟨rfl, hS.out _ (hW.2.2.trans (hb.mono hW.2.2.size)), hb⟩
  have HX := hc X sX
  have HY := hc Y sY
  have hal : Hid (∀ W ob, (W.cell? ⟨w.heap.size, 0, none⟩ = some (.string X) ∧ W.cell? ⟨w.heap.size, 1, none⟩ = some (.string Y) ∧ Below w1.heap.size w1 W) → (W.alloc ob).cell? ⟨w.heap.size, 0, none⟩ = some (.string X) ∧ (W.alloc ob).cell? ⟨w.heap.size, 1, none⟩ = some (.string Y) ∧ Below w1.heap.size w1 (W.alloc ob)) := Lib.hid fun W ob hW => hS.out _ (hW.2.2.alloc hW.2.2.size ob)
  have hst : Hid (∀ W N, w1.heap.size ≤ N → (W.cell? ⟨w.heap.size, 0, none⟩ = some (.string X) ∧ W.cell? ⟨w.heap.size, 1, none⟩ = some (.string Y) ∧ Below w1.heap.size w1 W) → (((W.setCell ⟨N, 0, none⟩ (.string X)).setCell ⟨N, 1, none⟩ (.string Y)).setCell ⟨N, 2, none⟩ (.slice none 0 0)).cell? ⟨w.heap.size, 0, none⟩ = some (.string X) ∧ (((W.setCell ⟨N, 0, none⟩ (.string X)).setCell ⟨N, 1, none⟩ (.string Y)).setCell ⟨N, 2, none⟩ (.slice none 0 0)).cell? ⟨w.heap.size, 1, none⟩ = some (.string Y) ∧ Below w1.heap.size w1 (((W.setCell ⟨N, 0, none⟩ (.string X)).setCell ⟨N, 1, none⟩ (.string Y)).setCell ⟨N, 2, none⟩ (.slice none 0 0))) := Lib.hid fun W N hN hW => hS.out _ (below_putT hW.2.2 hN (.string X) (.string Y) (.slice none 0 0))
  have hS0 := Lib.hid (hS.out w1 (Below.refl _ _))
  have hS1 := Lib.hid (hS.out _ (Below.refl w1.heap.size w1).drew)
  have hS2 := Lib.hid (hS.out _ (((Below.refl w1.heap.size w1).alloc (Nat.le_refl _) (.cells #[.string ⟨#[]⟩, .string ⟨#[]⟩, .slice none 0 0] 26)).drew).drew)
  have hS3 := Lib.hid (hS.out _ ((Below.refl w1.heap.size w1).alloc (Nat.le_refl _) (.cells #[.string ⟨#[]⟩, .string ⟨#[]⟩, .slice none 0 0] 26)).drew)
  have HP := Lib.hid (And.intro hn2 (And.intro hX hY))
  have K1 := Lib.hid (And.intro t1 (And.intro r1 b1))
  have Z1 := Lib.hid z1
  clear hn2 hX hY hs h t1 r1 b1 hc hS z1
  go_enter Tryz.func54, Tryz.ntmps54
  go_wp2_with fail
  refine Code.wp_mono (Q := CopyQ w w1 X Y a2 n2 c2) ?himp ?hreg
  case hreg =>
    refine wp_region_held_drew (S := (fun W => W.cell? ⟨w.heap.size, 0, none⟩ = some (.string X) ∧ W.cell? ⟨w.heap.size, 1, none⟩ = some (.string Y) ∧ Below w1.heap.size w1 W)) (by kernel_rfl) (by first | assumption | exact hS0.out | exact hS1.out) (fun hHeld => ?_)
    refine' wpAnyH_take (i := 0) (v := ?v0y) ?hi0y (by kernel_rfl) (by kernel_rfl) (by kernel_rfl) ?hq0y (Or.inl ⟨?hw0y, ?hy0y⟩) (by assumption) ?hr0y
    case hi0y => (simp only [List.getElem?_toArray, List.getElem?_cons_zero]; exact rfl)
    case hq0y => exact fun _ _ _ h => h
    case hw0y => rfl
    case hy0y =>
      intro wz hz
      (try dsimp only at hz)
      go_simp
      all_goals with_reducible rfl
    try simp only [Act.put, List.setIfInBounds_toArray, List.set_cons_zero, List.set_cons_succ]
    refine' wpAnyH_take (i := 1) (v := ?v1y) ?hi1y (by kernel_rfl) (by kernel_rfl) (by kernel_rfl) ?hq1y (Or.inl ⟨?hw1y, ?hy1y⟩) (by assumption) ?hr1y
    case hi1y => (simp only [List.getElem?_toArray, List.getElem?_cons_zero, List.getElem?_cons_succ]; exact rfl)
    case hq1y => exact fun _ _ _ h => h
    case hw1y => rfl
    case hy1y =>
      intro wz hz
      (try dsimp only at hz)
      go_simp
      all_goals with_reducible rfl
    try simp only [Act.put, List.setIfInBounds_toArray, List.set_cons_zero, List.set_cons_succ]
    refine' wpAnyH_take (i := 3) (v := ?v3y) ?hi3y (by kernel_rfl) (by kernel_rfl) (by kernel_rfl) ?hq3y (Or.inl ⟨?hw3y, ?hy3y⟩) (by assumption) ?hr3y
    case hi3y => (simp only [List.getElem?_toArray, List.getElem?_cons_zero, List.getElem?_cons_succ]; exact rfl)
    case hq3y => exact fun _ _ _ h => h
    case hw3y => rfl
    case hy3y =>
      intro wz hz
      (try dsimp only at hz)
      go_simp
      all_goals with_reducible rfl
    try simp only [Act.put, List.setIfInBounds_toArray, List.set_cons_zero, List.set_cons_succ]
    refine' wpAnyH_take (i := 4) (v := ?v4y) ?hi4y (by kernel_rfl) (by kernel_rfl) (by kernel_rfl) ?hq4y (Or.inl ⟨?hw4y, ?hy4y⟩) (by assumption) ?hr4y
    case hi4y => (simp only [List.getElem?_toArray, List.getElem?_cons_zero, List.getElem?_cons_succ]; exact rfl)
    case hq4y => exact fun _ _ _ h => h
    case hw4y => rfl
    case hy4y =>
      intro wz hz
      (try dsimp only at hz)
      go_simp
      all_goals with_reducible rfl
    try simp only [Act.put, List.setIfInBounds_toArray, List.set_cons_zero, List.set_cons_succ]
    refine wpAnyH_ready (rs := [2, 7]) (by kernel_rfl) (by simp) ?_
    refine AllReadyH.cons (o := ?hoA) ?hioA (fun KA hKA => ?hsA) ?hmA
    case hioA => (simp only [List.getElem?_toArray, List.getElem?_cons_zero, List.getElem?_cons_succ]; exact rfl)
    case hsA =>
      go_simp
      go_at_call 20
      with_reducible refine (HX.out _ ?_).mono ?_
      · assumption
      rintro e w2 ⟨rfl, hSA, hbA⟩
      refine hKA.out _ _ hSA (fun hHeldA => ?_)
      try simp only [Act.put, List.setIfInBounds_toArray, List.set_cons_zero, List.set_cons_succ]
      refine wpAnyH_ready (rs := [5, 7]) (by kernel_rfl) (by simp) ?_
      refine AllReadyH.cons (o := ?hoB) ?hioB (fun KB hKB => ?hsB) ?hmB
      case hioB => (simp only [List.getElem?_toArray, List.getElem?_cons_zero, List.getElem?_cons_succ]; exact rfl)
      case hsB =>
        go_simp
        go_at_call 20
        with_reducible refine (HY.out _ ?_).mono ?_
        · assumption
        rintro e w3 ⟨rfl, hSB, hbB⟩
        refine hKB.out _ _ hSB (fun hHeldB => ?_)
        try simp only [Act.put, List.setIfInBounds_toArray, List.set_cons_zero, List.set_cons_succ]
        refine' wpAnyH_take (i := 6) (v := ?v6B) ?hi6B (by kernel_rfl) (by kernel_rfl) (by kernel_rfl) ?hq6B (Or.inl ⟨?hw6B, ?hy6B⟩) (by assumption) ?hr6B
        case hi6B => (simp only [List.getElem?_toArray, List.getElem?_cons_zero, List.getElem?_cons_succ]; exact rfl)
        case hq6B => exact fun _ _ _ h => h
        case hw6B => rfl
        case hy6B =>
          intro wz hz
          (try dsimp only at hz)
          go_simp
          all_goals with_reducible rfl
        try simp only [Act.put, List.setIfInBounds_toArray, List.set_cons_zero, List.set_cons_succ]
        refine wpAnyH_ready (rs := [7]) (by kernel_rfl) (by simp) ?_
        refine AllReadyH.cons (o := ?hoC) ?hioC (fun KC hKC => ?hsC) AllReadyH.nil
        case hioC => (simp only [List.getElem?_toArray, List.getElem?_cons_zero, List.getElem?_cons_succ]; exact rfl)
        case hsC =>
          go_simp
          refine hKC.out _ _ (hal.out _ _ hSB) (fun hHeldC => ?_)
          try simp only [Act.put, List.setIfInBounds_toArray, List.set_cons_zero, List.set_cons_succ]
          refine wpAnyH_ready (rs := [8]) (by kernel_rfl) (by simp) ?_
          refine AllReadyH.cons (o := ?hoD) ?hioD (fun KD hKD => ?hsD) AllReadyH.nil
          case hioD => (simp only [List.getElem?_toArray, List.getElem?_cons_zero, List.getElem?_cons_succ]; exact rfl)
          case hsD =>
            go_simp
            refine hKD.out _ _ (hal.out _ _ hSB) (fun hHeldD => ?_)
            try simp only [Act.put, List.setIfInBounds_toArray, List.set_cons_zero, List.set_cons_succ]
            refine wpAnyH_done (by kernel_rfl) ?_ _
            exact ⟨w3.heap.size, rfl, hSB.2.2.size, by simp, typ_new w3 _ _ _ _ _, hSB.2.2.alloc hSB.2.2.size _⟩
      case hmB =>
        refine AllReadyH.cons (o := ?hoE) ?hioE (fun KE hKE => ?hsE) AllReadyH.nil
        case hioE => (simp only [List.getElem?_toArray, List.getElem?_cons_zero, List.getElem?_cons_succ]; exact rfl)
        case hsE =>
          go_simp
          refine hKE.out _ _ (hal.out _ _ hSA) (fun hHeldE => ?_)
          try simp only [Act.put, List.setIfInBounds_toArray, List.set_cons_zero, List.set_cons_succ]
          refine wpAnyH_ready (rs := [5]) (by kernel_rfl) (by simp) ?_
          refine AllReadyH.cons (o := ?hoF) ?hioF (fun KF hKF => ?hsF) AllReadyH.nil
          case hioF => (simp only [List.getElem?_toArray, List.getElem?_cons_zero, List.getElem?_cons_succ]; exact rfl)
          case hsF =>
            go_simp
            go_at_call 20
            with_reducible refine (HY.out _ ?_).mono ?_
            · assumption
            rintro e w3 ⟨rfl, hSF, hbF⟩
            have nF : TypAt w3 w2.heap.size ⟨#[]⟩ ⟨#[]⟩ none 0 0 := (hbF.block w2.heap.size (by simp)).trans (typ_new w2 _ _ _ _ _)
            obtain ⟨x0, x1, x2, f0, f1, f2⟩ := nF.cells
            refine hKF.out _ _ hSF (fun hHeldF => ?_)
            try simp only [Act.put, List.setIfInBounds_toArray, List.set_cons_zero, List.set_cons_succ]
            refine' wpAnyH_take (i := 6) (v := ?v6F) ?hi6F (by kernel_rfl) (by kernel_rfl) (by kernel_rfl) ?hq6F (Or.inl ⟨?hw6F, ?hy6F⟩) (by assumption) ?hr6F
            case hi6F => (simp only [List.getElem?_toArray, List.getElem?_cons_zero, List.getElem?_cons_succ]; exact rfl)
            case hq6F => exact fun _ _ _ h => h
            case hw6F => rfl
            case hy6F =>
              intro wz hz
              (try dsimp only at hz)
              go_simp
              all_goals with_reducible rfl
            try simp only [Act.put, List.setIfInBounds_toArray, List.set_cons_zero, List.set_cons_succ]
            refine wpAnyH_ready (rs := [8]) (by kernel_rfl) (by simp) ?_
            refine AllReadyH.cons (o := ?hoG) ?hioG (fun KG hKG => ?hsG) AllReadyH.nil
            case hioG => (simp only [List.getElem?_toArray, List.getElem?_cons_zero, List.getElem?_cons_succ]; exact rfl)
            case hsG =>
              go_simp
              refine hKG.out _ _ (hst.out _ _ hSA.2.2.size hSF) (fun hHeldG => ?_)
              try simp only [Act.put, List.setIfInBounds_toArray, List.set_cons_zero, List.set_cons_succ]
              refine wpAnyH_done (by kernel_rfl) ?_ _
              exact ⟨w2.heap.size, rfl, hSA.2.2.size, (nF.put X Y none 0 0).lt, nF.put X Y none 0 0, (hst.out _ _ hSA.2.2.size hSF).2.2⟩
    case hmA =>
      refine AllReadyH.cons (o := ?hoH) ?hioH (fun KH hKH => ?hsH) AllReadyH.nil
      case hioH => (simp only [List.getElem?_toArray, List.getElem?_cons_zero, List.getElem?_cons_succ]; exact rfl)
      case hsH =>
        go_simp
        refine hKH.out _ _ (by first | exact hS2.out | exact hS3.out | exact hal.out _ _ (by assumption)) (fun hHeldH => ?_)
        try simp only [Act.put, List.setIfInBounds_toArray, List.set_cons_zero, List.set_cons_succ]
        refine wpAnyH_ready (rs := [2]) (by kernel_rfl) (by simp) ?_
        refine AllReadyH.cons (o := ?hoI) ?hioI (fun KI hKI => ?hsI) AllReadyH.nil
        case hioI => (simp only [List.getElem?_toArray, List.getElem?_cons_zero, List.getElem?_cons_succ]; exact rfl)
        case hsI =>
          go_simp
          go_at_call 20
          with_reducible refine (HX.out _ ?_).mono ?_
          · assumption
          rintro e w2 ⟨rfl, hSI, hbI⟩
          have nI : TypAt w2 w1.heap.size ⟨#[]⟩ ⟨#[]⟩ none 0 0 := (hbI.block w1.heap.size (by simp)).trans (by first | exact typ_new w1 _ _ _ _ _ | exact typ_new w1.drew _ _ _ _ _)
          refine hKI.out _ _ hSI (fun hHeldI => ?_)
          try simp only [Act.put, List.setIfInBounds_toArray, List.set_cons_zero, List.set_cons_succ]
          refine wpAnyH_ready (rs := [5]) (by kernel_rfl) (by simp) ?_
          refine AllReadyH.cons (o := ?hoJ) ?hioJ (fun KJ hKJ => ?hsJ) AllReadyH.nil
          case hioJ => (simp only [List.getElem?_toArray, List.getElem?_cons_zero, List.getElem?_cons_succ]; exact rfl)
          case hsJ =>
            go_simp
            go_at_call 20
            with_reducible refine (HY.out _ ?_).mono ?_
            · assumption
            rintro e w3 ⟨rfl, hSJ, hbJ⟩
            have nJ := nI.below hbJ
            obtain ⟨x0, x1, x2, f0, f1, f2⟩ := nJ.cells
            refine hKJ.out _ _ hSJ (fun hHeldJ => ?_)
            try simp only [Act.put, List.setIfInBounds_toArray, List.set_cons_zero, List.set_cons_succ]
            refine' wpAnyH_take (i := 6) (v := ?v6J) ?hi6J (by kernel_rfl) (by kernel_rfl) (by kernel_rfl) ?hq6J (Or.inl ⟨?hw6J, ?hy6J⟩) (by assumption) ?hr6J
            case hi6J => (simp only [List.getElem?_toArray, List.getElem?_cons_zero, List.getElem?_cons_succ]; exact rfl)
            case hq6J => exact fun _ _ _ h => h
            case hw6J => rfl
            case hy6J =>
              intro wz hz
              (try dsimp only at hz)
              go_simp
              all_goals with_reducible rfl
            try simp only [Act.put, List.setIfInBounds_toArray, List.set_cons_zero, List.set_cons_succ]
            refine wpAnyH_ready (rs := [8]) (by kernel_rfl) (by simp) ?_
            refine AllReadyH.cons (o := ?hoL) ?hioL (fun KL hKL => ?hsL) AllReadyH.nil
            case hioL => (simp only [List.getElem?_toArray, List.getElem?_cons_zero, List.getElem?_cons_succ]; exact rfl)
            case hsL =>
              go_simp
              refine hKL.out _ _ (hst.out _ _ (Nat.le_refl _) hSJ) (fun hHeldL => ?_)
              try simp only [Act.put, List.setIfInBounds_toArray, List.set_cons_zero, List.set_cons_succ]
              refine wpAnyH_done (by kernel_rfl) ?_ _
              exact ⟨w1.heap.size, rfl, Nat.le_refl _, (nJ.put X Y none 0 0).lt, nJ.put X Y none 0 0, (hst.out _ _ (Nat.le_refl _) hSJ).2.2⟩
  case himp =>
    intro e a W hQ
    cases e with
    | normal =>
      obtain ⟨N, rfl, hN, hNs, hty, hbW⟩ := hQ
      have K2 : Hid (Below w.heap.size w W ∧ TypAt W w.heap.size X Y a2 n2 c2 ∧ TypAt W (w.heap.size + 1) ⟨#[]⟩ ⟨#[]⟩ none 0 0 ∧ TypAt W N X Y none 0 0 ∧ w.heap.size + 1 < N) := Lib.hid ⟨K1.out.2.2.trans (hbW.mono (by have := Z1.out; omega)), K1.out.1.below hbW, K1.out.2.1.below hbW, hty, by have := Z1.out; omega⟩
      obtain ⟨t0, t1, t2, _⟩ := K2.out.2.1.cells
      clear HX HY hal hst hS0 hS1 hS2 hS3 K1 hty hbW
      dsimp only
      obtain ⟨i0, hi0, hz0, hz1, hz2⟩ := info_parts infoPar
      have Hq : Hid (∀ W' i (hi : i < t.2.2.length), Below w.heap.size w W' → ∃ g off, a2 = some ⟨g, off, none⟩ ∧ W'.cell? ⟨g, off + i * 2, none⟩ = some (.string (textQ t.2.2[i].1)) ∧ W'.cell? ⟨g, off + i * 2 + 1, none⟩ = some (.string (textQ t.2.2[i].2))) := Lib.hid fun W' i hi hW => by
        obtain ⟨ao, cap, e, _, _, h4⟩ := HS.out.2.1.below hW HS.out.2.2
        cases e
        obtain ⟨g, off, q1, _, q3, q4⟩ := h4 i hi
        exact ⟨g, off, q1, q3, q4⟩
      go_wp2
      go_loopw [16] (fun iv V => ∃ (i : Nat) (ao : Option Addr) (cap : Nat), i ≤ n2 ∧ iv = .int .i64 i ∧ W.heap.size ≤ V.heap.size ∧ Hid (Below w.heap.size w V ∧ TypAt V w.heap.size X Y a2 n2 c2 ∧ TypAt V (w.heap.size + 1) ⟨#[]⟩ ⟨#[]⟩ none 0 0 ∧ TypAt V N X Y ao i cap ∧ ParsOwn V W.heap.size (.slice ao i cap) (t.2.2.take i))) (fun iv _ => n2 - (intOf iv).toNat)
      case atStart => exact ⟨0, none, 0, by omega, rfl, Nat.le_refl _, Lib.hid ⟨K2.out.1, K2.out.2.1, K2.out.2.2.1, K2.out.2.2.2.1, World.ownsRow_nil _ _ _ _⟩⟩
      case round =>
        obtain ⟨i, ao, cap, hi, rfl, hbz, hk⟩ := hrel
        clear t0 t1 t2
        by_cases hlt : i < n2
        · have hil : i < t.2.2.length := by rw [HP.out.1]; exact hlt
          obtain ⟨g, off, rfl, x0, x1⟩ := Hq.out wr i hil hk.out.1
          obtain ⟨s1, s2⟩ := HS.out.1.2.2 _ (List.getElem_mem hil)
          have htk := List.take_succ_eq_append_getElem hil
          obtain ⟨f, hf⟩ : ∃ f, t.2.2[i] = f := ⟨_, rfl⟩
          rw [hf] at x0 x1 s1 s2 htk
          obtain ⟨P, hP⟩ : ∃ P, textQ f.1 = P := ⟨_, rfl⟩
          obtain ⟨Q, hQ⟩ : ∃ Q, textQ f.2 = Q := ⟨_, rfl⟩
          rw [hP] at x0
          rw [hQ] at x1
          have sP : P.size ≤ 100000000 := by rw [← hP]; exact s1
          have sQ : Q.size ≤ 100000000 := by rw [← hQ]; exact s2
          have e2 : parsCells (t.2.2.take (i + 1)) = parsCells (t.2.2.take i) ++ [.string P, .string Q] := by
            rw [htk]
            unfold parsCells
            rw [List.flatMap_append, ← hP, ← hQ]
            rfl
          have HE := Lib.hid (And.intro e2 (by rw [List.length_take]; omega : (t.2.2.take i).length = i))
          have HE2 := Lib.hid (by rw [List.length_take]; omega : (t.2.2.take (i + 1)).length = i + 1)
          obtain ⟨w8, hw8⟩ : ∃ w8, wr.alloc (.cells #[.string P, .string Q] 57) = w8 := ⟨_, rfl⟩
          have b8 : Below wr.heap.size wr w8 := by rw [← hw8]; exact (Below.refl _ _).alloc (Nat.le_refl _) _
          have z8 : wr.heap.size < w8.heap.size := by rw [← hw8]; simp
          have q8 : ParAt w8 wr.heap.size P Q := by rw [← hw8]; exact par_new wr P Q
          have K8 : Hid (∀ V, Below w8.heap.size w8 V → ((V.cell? ⟨N, 2, none⟩ = some (.slice ao i cap) ∧ (∀ o, (V.alloc o).cell? ⟨N, 2, none⟩ = some (.slice ao i cap))) ∧ V.cell? ⟨wr.heap.size, 0, none⟩ = some (.string P) ∧ V.cell? ⟨wr.heap.size, 1, none⟩ = some (.string Q)) ∧ TypAt V N X Y ao i cap ∧ ParsOwn V W.heap.size (.slice ao i cap) (t.2.2.take i) ∧ Below wr.heap.size wr V) := Lib.hid fun V hV => by
            have hbw : Below wr.heap.size wr V := b8.trans (hV.mono b8.size)
            have n := hk.out.2.2.2.1.below hbw
            obtain ⟨_, _, c, _⟩ := n.cells
            obtain ⟨c0, c1, _⟩ := (q8.below hV).cells
            exact ⟨⟨⟨c, fun o => Lib.cell?_alloc_some o c⟩, c0, c1⟩, n, own_below hk.out.2.2.2.2 hbw, hbw⟩
          have HCP : Hid (∀ V, Calls Tryz.prog 20 #[.string P] V fun e w' => e = .returned (.string P) ∧ Below V.heap.size V w') := Lib.hid fun V => sclone_any P V sP
          have HCQ : Hid (∀ V, Calls Tryz.prog 20 #[.string Q] V fun e w' => e = .returned (.string Q) ∧ Below V.heap.size V w') := Lib.hid fun V => sclone_any Q V sQ
          obtain ⟨⟨⟨k0, k1⟩, k2, k3⟩, _⟩ := K8.out w8 (Below.refl _ _)
          have HR : Hid (∀ V, Below w8.heap.size w8 V → ∀ o, (V.alloc o).ownsRow W.heap.size 57 2 (.slice ao i cap) i (parsCells (t.2.2.take i))) := Lib.hid fun V hV o => by
            have h5 := own_below (K8.out V hV).2.2.1 ((Below.refl _ V).alloc (Nat.le_refl _) o)
            unfold ParsOwn at h5
            rw [HE.out.2] at h5
            exact h5
          have h63 : i + 1 ≤ maxLen := by unfold maxLen; omega
          have hbb : (i + 1) * 32 ≤ 140737488355328 := by omega
          have HZ := Lib.hid (And.intro hbz (And.intro z8 hNs))
          clear hf hP hQ htk e2 b8 q8 hil s1 s2 hbz
          have HFin : Hid (∀ (w10 : World), Below w8.heap.size w8 w10 → ∀ (w11 : World) gg cap1, w11.ownsRow W.heap.size 57 2 (.slice (some ⟨gg, 0, none⟩) (i + 1) cap1) (i + 1) (parsCells (t.2.2.take i) ++ [.string P, .string Q]) → (w10.alloc (.cells #[.string P, .string Q] 57)).grownBy w11 (Value.slice ao i cap).ownBlock →
              W.heap.size ≤ (w11.setCell ⟨N, 2, none⟩ (.slice (some ⟨gg, 0, none⟩) (i + 1) cap1)).heap.size ∧ Below w.heap.size w (w11.setCell ⟨N, 2, none⟩ (.slice (some ⟨gg, 0, none⟩) (i + 1) cap1)) ∧ TypAt (w11.setCell ⟨N, 2, none⟩ (.slice (some ⟨gg, 0, none⟩) (i + 1) cap1)) w.heap.size X Y (some ⟨g, off, none⟩) n2 c2 ∧ TypAt (w11.setCell ⟨N, 2, none⟩ (.slice (some ⟨gg, 0, none⟩) (i + 1) cap1)) (w.heap.size + 1) ⟨#[]⟩ ⟨#[]⟩ none 0 0 ∧ TypAt (w11.setCell ⟨N, 2, none⟩ (.slice (some ⟨gg, 0, none⟩) (i + 1) cap1)) N X Y (some ⟨gg, 0, none⟩) (i + 1) cap1 ∧ ParsOwn (w11.setCell ⟨N, 2, none⟩ (.slice (some ⟨gg, 0, none⟩) (i + 1) cap1)) W.heap.size (.slice (some ⟨gg, 0, none⟩) (i + 1) cap1) (t.2.2.take (i + 1))) := Lib.hid fun w10 hc10 w11 gg cap1 hown1 hgrow => by
            obtain ⟨_, hn, ho, hbw⟩ := K8.out w10 hc10
            have hal2 : Below w10.heap.size w10 (w10.alloc (.cells #[.string P, .string Q] 57)) := (Below.refl _ w10).alloc (Nat.le_refl _) _
            have hro := HR.out w10 hc10 (.cells #[.string P, .string Q] 57)
            have hbz := HZ.out.1
            have hz10 := hc10.size
            have hz11 := hgrow.size
            have hza : (w10.alloc (.cells #[.string P, .string Q] 57)).heap.size = w10.heap.size + 1 := World.size_alloc _ _
            have hzs : (w11.setCell ⟨N, 2, none⟩ (.slice (some ⟨gg, 0, none⟩) (i + 1) cap1)).heap.size = w11.heap.size := by simp [World.setCell]
            have hst : ∀ k, k < W.heap.size → k ≠ N → (w11.setCell ⟨N, 2, none⟩ (.slice (some ⟨gg, 0, none⟩) (i + 1) cap1)).heap[k]? = wr.heap[k]? := fun k h1 h2 => by
              have e1 := Below.heap_setCell w11 ⟨N, 2, none⟩ (.slice (some ⟨gg, 0, none⟩) (i + 1) cap1) k h2
              have e2 := hgrow.block k (by omega) (fun e => by have := (hro.lt k e.symm).1; omega)
              have e3 := hal2.block k (by omega)
              have e4 := hbw.block k (by omega)
              exact e1.trans (e2.trans (e3.trans e4))
            have hz3 := HZ.out.2.2
            have hNw := K2.out.2.2.2.2
            refine ⟨by omega, ?_, ?_, ?_, ?_, ?_⟩
            · have hg1 : Below w.heap.size w w11 := ((hk.out.1.trans (hbw.mono hk.out.1.size)).trans (hal2.mono (by have := hk.out.1.size; omega))).grown hgrow (by have := hk.out.1.size; omega) (fun k hk2 => by have := (hro.lt k hk2).1; omega)
              exact hg1.setCell (p := ⟨N, 2, none⟩) (by show w.heap.size ≤ N; omega) _
            · exact (hst _ (by omega) (by omega)).trans hk.out.2.1
            · exact (hst _ (by omega) (by omega)).trans hk.out.2.2.1
            · exact (typ_grown hro (hn.below hal2) hz3 hgrow).pars _ _ _
            · have h5 := ownsRow_setCell_below hown1 (a := ⟨N, 2, none⟩) hz3 (.slice (some ⟨gg, 0, none⟩) (i + 1) cap1)
              unfold ParsOwn
              rw [HE2.out, HE.out.1]
              exact h5
          go_wp2_with fail
          go_region_law (first
            | (go_simp; go_at_call 20; (with_reducible refine (HCP.out _).mono ?_); rintro e w9 ⟨rfl, hb9⟩; have hc9 : Below w8.heap.size w8 w9 := (below_drewN (Below.refl _ w8) 1).trans hb9; obtain ⟨⟨⟨m0, m1⟩, m2, m3⟩, _⟩ := K8.out w9 hc9; clear hb9)
            | (go_simp; go_at_call 20; (with_reducible refine (HCQ.out _).mono ?_); rintro e w10 ⟨rfl, hb10⟩; have hc10 : Below w8.heap.size w8 w10 := hc9.trans (hb10.mono hc9.size); obtain ⟨⟨⟨n0, n1'⟩, n2', n3'⟩, _⟩ := K8.out w10 hc10; clear hb10)
            | (refine step_append_lies _ (by rfl) _ _ _ (by rfl) W.heap.size 57 i0 _ 2 32 Tryz.underlying24 hi0 hz0 hz1 hz2 rfl (by omega) (.slice ao i cap) i (parsCells (t.2.2.take i)) (by rfl) (HR.out w10 hc10 _) ⟨w10.heap.size, 0, none⟩ 1 1 [.string P, .string Q] (by rfl) (by rfl) (World.news_of_block (cs := #[.string P, .string Q]) (t := 57) (fr := (0, 0)) (heap_alloc_new w10 _)) (by simp [Value.oneCell']) (by omega) h63 hbb (by have := hc10.size; have := HZ.out; first | (simp; omega) | omega) (w10.heap.size + 1) (by simp) ?_; intro gg cap1 w11 hown1 hgrow hat hlt1; have hd1 := typ_grown (HR.out w10 hc10 _) (((K8.out w10 hc10).2.1).below ((Below.refl _ w10).alloc (Nat.le_refl _) _)) HZ.out.2.2 hgrow; obtain ⟨_, _, r3, _, _, f3⟩ := id hd1.cells; clear hd1))
          all_goals
            have HH := Lib.hid (HFin.out w10 hc10 w11 gg cap1 hown1 hgrow)
            have zH := HH.out.1
            clear hown1 hgrow hat hlt1 hc10 hc9 k0 k1 k2 k3 m0 m1 m2 m3 n0 n1' n2' n3'
            go_wp2
            go_roundw
            case rel => exact ⟨i + 1, _, _, by omega, by go_num, zH, Lib.hid HH.out.2⟩
            case measure => simp [intOf]; omega
        · obtain rfl : i = n2 := by omega
          have etk : t.2.2.take i = t.2.2 := List.take_of_length_le (by rw [HP.out.1]; exact Nat.le_refl _)
          obtain ⟨u0, u1, u2, _⟩ := hk.out.2.2.2.1.cells
          obtain ⟨y0, y1, y2, f0, f1, f2⟩ := hk.out.2.2.1.cells
          obtain ⟨v0, v1, v2, _⟩ := (hk.out.2.2.1.put X Y ao i cap).cells
          have Fin : Hid (Below w.heap.size w (((wr.setCell ⟨w.heap.size + 1, 0, none⟩ (.string X)).setCell ⟨w.heap.size + 1, 1, none⟩ (.string Y)).setCell ⟨w.heap.size + 1, 2, none⟩ (.slice ao i cap)) ∧ ParsOwn (((wr.setCell ⟨w.heap.size + 1, 0, none⟩ (.string X)).setCell ⟨w.heap.size + 1, 1, none⟩ (.string Y)).setCell ⟨w.heap.size + 1, 2, none⟩ (.slice ao i cap)) w.heap.size (.slice ao i cap) t.2.2) := Lib.hid (by
            refine ⟨below_putT hk.out.1 (by omega) _ _ _, ?_⟩
            have h5 := hk.out.2.2.2.2
            rw [etk] at h5
            have hNw := K2.out.2.2.2.2
            have h6 := ownsRow_setCell_below h5 (a := ⟨w.heap.size + 1, 0, none⟩) (by show w.heap.size + 1 < W.heap.size; omega) (.string X)
            have h7 := ownsRow_setCell_below h6 (a := ⟨w.heap.size + 1, 1, none⟩) (by show w.heap.size + 1 < W.heap.size; omega) (.string Y)
            have h8 := ownsRow_setCell_below h7 (a := ⟨w.heap.size + 1, 2, none⟩) (by show w.heap.size + 1 < W.heap.size; omega) (.slice ao i cap)
            exact own_low h8 (by have := K2.out.1.size; omega))
          clear hk etk
          go_wp2
          refine bodyPost_ret (v := .agg #[.string X, .string Y, .slice ao i cap]) (by simp [results, Tryz.f54, go_sem, v0, v1, v2]) rfl ?_
          exact ⟨_, rfl, Fin.out.2, Fin.out.1⟩
    | _ => exact hQ.elim
end Go.Proofs.YtjikghndoklajaaGreatDoor
