/-
  SectorTorn returns true, for any acts and any cut: the walk.
-/
import Derived.Test.YtjmphdpeaahmfaaAwake7
import Derived.Test.YtjmphdpeaahmfaaFew7
import Derived.Test.YtjmphdpeaahmfaaEightS
import Derived.BigQuiet
import Derived.Deep.Cut
namespace Go.Proofs.Ytjmphdpeaahmfaa
open Go.RowKit Go.Maps

/-- What the disk, and what is noted of the cut, come to behind i acts: nothing was cut; or a write to t was. -/
def PhaseT (ca ct : Int) (i : Nat) (ss : List (List UInt8)) (d : Dk) (T : Int) (S : ByteArray) : Prop :=
  (T = -1 ∧ ∃ x : Int, 0 ≤ x ∧ x ≤ i ∧ d = ⟨ss, ca, ct, false, x, 0⟩) ∨
  (∃ (t : Nat) (y : List UInt8) (x : Int), t < 8 ∧ T = (t : Int) ∧ y.length = 64 ∧ S = textD y ∧ 0 ≤ x ∧ x ≤ i ∧ d = ⟨ss.set t (y.take (tornN ct) ++ (ss.getD t []).drop (tornN ct)), 0, 0, true, x, 0⟩)
theorem PhaseT.more {ca ct : Int} {i : Nat} {ss : List (List UInt8)} {d : Dk} {T : Int} {S : ByteArray} (h : PhaseT ca ct i ss d T S) : PhaseT ca ct (i + 1) ss d T S := by
  rcases h with ⟨h1, x, h2, h3, h4⟩ | ⟨t, y, x, h1, h2, h3, h4, h5, h6, h7⟩
  · exact .inl ⟨h1, x, h2, by omega, h4⟩
  · exact .inr ⟨t, y, x, h1, h2, h3, h4, h5, by omega, h7⟩
theorem PhaseT.wr {ca ct : Int} {i : Nat} {ss : List (List UInt8)} {d : Dk} {T : Int} {S : ByteArray} (h : PhaseT ca ct i ss d T S) : d.wr ≤ i := by
  rcases h with ⟨_, x, _, h3, rfl⟩ | ⟨t, y, x, _, _, _, _, _, h6, rfl⟩
  · exact h3
  · exact h6

/-- What lies on the disk in the end. -/
theorem PhaseT.fin {ca ct : Int} {i : Nat} {ss : List (List UInt8)} {d : Dk} {T : Int} {S : ByteArray} (h : PhaseT ca ct i ss d T S) (hss : ss.length = 8) :
    d.ss.length = 8 ∧ ∀ j : Nat, j < 8 → ((j : Int) ≠ T → d.ss.getD j [] = ss.getD j []) ∧ ((j : Int) = T → ∃ y : List UInt8, y.length = 64 ∧ S = textD y ∧ d.ss.getD j [] = y.take (tornN ct) ++ (ss.getD j []).drop (tornN ct)) := by
  rcases h with ⟨hT, z, _, _, rfl⟩ | ⟨t, y, z, ht, hT, hy, hS, _, _, rfl⟩
  · exact ⟨hss, fun j hj => ⟨fun _ => rfl, fun e => by omega⟩⟩
  · refine ⟨by rw [List.length_set]; exact hss, fun j hj => ⟨fun hne => ?_, fun e => ⟨y, hy, hS, ?_⟩⟩⟩
    · show (ss.set t _).getD j [] = _
      rw [List.getD_eq_getElem?_getD, List.getElem?_set_ne (by omega), List.getD_eq_getElem?_getD]
    · obtain rfl : j = t := by omega
      show (ss.set j _).getD j [] = _
      rw [List.getD_eq_getElem?_getD, List.getElem?_set_self (by omega), Option.getD_some]
/-- A text's length, told of a value. -/
def lenV : Value → Nat
  | .string s => s.size
  | _ => 0
theorem write_off {d : Dk} {p : Int} {x : List UInt8} (h : d.down = true) : sayD d p x = 6 ∧ writeD d p x = d := by
  have hc : checkD d p = 6 := by unfold checkD; rw [if_pos h]
  unfold sayD writeD
  rw [hc, if_neg (by decide), if_neg (fun e => absurd e.1 (by decide))]
  exact ⟨rfl, rfl⟩

set_option maxRecDepth 100000 in
set_option maxHeartbeats 8000000 in
theorem storn_walk (n c : Nat) (A : Option Addr) (la : List ActS) (ca ct : Int) (w : World) (hA : Acts w A n la) :
    Calls Try.prog 4 #[.slice A n c, .agg #[.int .i64 ca, .int .i64 ct]] w fun e w' => e = .returned (.bool true) ∧ Below w.heap.size w w' := by
  have haw := awake7_any (w.alloc (.cells #[.int .i64 ca, .int .i64 ct] 31))
  have c0 : (w.alloc (.cells #[.int .i64 ca, .int .i64 ct] 31)).heap[w.heap.size]? = some (.cells #[.int .i64 ca, .int .i64 ct] 31 (0, 0)) := heap_alloc_new w _
  have hw0 : Below w.heap.size w (w.alloc (.cells #[.int .i64 ca, .int .i64 ct] 31)) := (Below.refl _ w).alloc (Nat.le_refl _) _
  go_enter Try.func4, Try.ntmps4
  go_wp2_with fail
  generalize w.alloc (.cells #[.int .i64 ca, .int .i64 ct] 31) = w0 at haw c0 hw0 ⊢
  have hz := hw0.size
  have hl0 : w.heap.size < w0.heap.size := (Array.getElem?_eq_some_iff.1 c0).1
  obtain ⟨b, hb⟩ : ∃ b, w.heap.size = b := ⟨_, rfl⟩
  rw [hb] at c0 hl0 hw0 ⊢
  have hK : Hid (∀ W, Below w0.heap.size w0 W → W.cell? ⟨b, 0, none⟩ = some (.int .i64 ca) ∧ W.cell? ⟨b, 1, none⟩ = some (.int .i64 ct) ∧ Below b w W ∧ Acts W A n la) := Lib.hid fun W hW => by
    have c0' := (hW.block b hl0).trans c0
    have hb3 : Below b w W := hw0.trans (hW.mono (by omega))
    refine ⟨?_, ?_, hb3, hA.below hb3 (by omega)⟩ <;> rw [Lib.cell_of_heap c0'] <;> rfl
  have hln := hA.nil_len
  refine haw.mono ?_
  rintro e w1 ⟨rfl, hb1⟩
  obtain ⟨k0, k1, k2, k3⟩ := hK.out w1 hb1
  have hfew := few7_any n c A la w1 k3
  clear haw c0 k0 k1 k3
  obtain ⟨fw, hfw⟩ : ∃ fw, fewA la = fw := ⟨_, rfl⟩
  rw [hfw] at hfew
  cases fw with
  | false =>
    have Hb := Lib.hid k2
    clear hb1 hA k2
    go_wp2_with (go_at_call 8; refine hfew.mono ?_; rintro e w9 ⟨rfl, h9⟩; obtain rfl := h9.symm; clear h9)
    go_ret
    exact ⟨rfl, by rw [hb]; exact Hb.out⟩
  | true =>
    obtain ⟨hn200, hd500⟩ := fewA_true hfw
    have Hd500 := Lib.hid hd500
    clear hA hd500 hfw k2
    go_wp2_with (go_at_call 8; refine hfew.mono ?_; rintro e w9 ⟨rfl, h9⟩; obtain rfl := h9.symm; clear h9)
    clear hfew
    refine (snew_any w0.heap.size w1 hb1.size 8 (by omega) (by omega)).mono ?_
    rintro e w2 ⟨N, g, rfl, hD2, hb2, _⟩
    have hB2 := hb1.trans (hb2.mono hb1.size)
    clear hb1 hb2
    have hE5 : EightS (w2.alloc (.cells #[.string ⟨#[]⟩, .string ⟨#[]⟩, .string ⟨#[]⟩, .string ⟨#[]⟩, .string ⟨#[]⟩, .string ⟨#[]⟩, .string ⟨#[]⟩, .string ⟨#[]⟩] 50)) w2.heap.size (newD 8).ss 0 := eight_new
    have hD5 := hD2.alloc (.cells #[.string ⟨#[]⟩, .string ⟨#[]⟩, .string ⟨#[]⟩, .string ⟨#[]⟩, .string ⟨#[]⟩, .string ⟨#[]⟩, .string ⟨#[]⟩, .string ⟨#[]⟩] 50)
    have hB5 := hB2.alloc hB2.size (.cells #[.string ⟨#[]⟩, .string ⟨#[]⟩, .string ⟨#[]⟩, .string ⟨#[]⟩, .string ⟨#[]⟩, .string ⟨#[]⟩, .string ⟨#[]⟩, .string ⟨#[]⟩] 50)
    have hu : ∀ b, mineD N g b → b ≠ w2.heap.size := fun b hb e => by
      have := (hD2.blocks b hb).2
      omega
    have hwu := hB2.size
    have Hu := Lib.hid hu
    have HE := Lib.hid (And.intro hE5 (And.intro hD5 hB5))
    clear hE5 hD5 hB5 hu hD2 hB2
    go_wp2_with fail
    obtain ⟨hE5, hD5, hB5⟩ := HE.out
    generalize w2.alloc (.cells #[.string ⟨#[]⟩, .string ⟨#[]⟩, .string ⟨#[]⟩, .string ⟨#[]⟩, .string ⟨#[]⟩, .string ⟨#[]⟩, .string ⟨#[]⟩, .string ⟨#[]⟩] 50) = w5 at hE5 hD5 hB5 ⊢
    generalize w2.heap.size = u at hE5 Hu hwu ⊢
    obtain ⟨s0, hs0⟩ : ∃ s0, (newD 8).ss = s0 := ⟨_, rfl⟩
    have hs0l : s0.length = 8 := by rw [← hs0]; rfl
    have hD5' : DiskAt w5 w0.heap.size N g ⟨s0, 0, 0, false, 0, 0⟩ := by rw [← hs0]; exact hD5
    rw [hs0] at hE5
    clear HE hD5 hs0
    go_loopw [8] (fun jv W => ∃ j : Nat, j ≤ 8 ∧ jv = .int .i64 j ∧ EightS W u s0 j ∧ DiskAt W w0.heap.size N g ⟨s0, 0, 0, false, 0, 0⟩ ∧ Below w0.heap.size w0 W) (fun jv _ => 8 - (intOf jv).toNat)
    case atStart => exact ⟨0, by omega, rfl, hE5, hD5', hB5⟩
    case round =>
      clear hE5 hD5' hB5
      obtain ⟨j, hj, rfl, hE, hD, hB⟩ := hrel
      by_cases hj8 : j < 8
      · have hr := sread_ok _ N g _ _ hD rfl j (show j < s0.length by omega)
        obtain ⟨t, k1, k2, _⟩ := hE.cell hj8
        have k3 : (0 : Int) ≤ (j : Int) := by omega
        have k4 : (j : Int) < 8 := by omega
        have hX : textD (s0[j]'(by omega)) = textD (s0.getD j []) := by rw [List.getD_eq_getElem?_getD, List.getElem?_eq_getElem (by omega), Option.getD_some]
        obtain ⟨X, hXX⟩ : ∃ X, textD (s0[j]'(by omega)) = X := ⟨_, rfl⟩
        rw [hXX] at hX hr
        have hE2 := hE.set hX
        have hD2 := hD.keep (Turned.set (S := fun b => b = u) (j := j) (N := u) (v := .string X) rfl) (fun b hb e => Hu.out b hb e)
        have hB2 := hB.setCell (p := ⟨u, j, none⟩) hwu (.string X)
        have H2 := Lib.hid (And.intro hE2 (And.intro hD2 hB2))
        clear hE hD hB hX hXX hE2 hD2 hB2
        go_wp2_with (go_at_call 13; refine hr.mono ?_; rintro e w9 ⟨rfl, h9⟩; obtain rfl := h9.symm; clear h9)
        go_roundw
        case rel => exact ⟨j + 1, by omega, by go_num, H2.out.1, H2.out.2.1, H2.out.2.2⟩
        case measure => simp [intOf]; omega
      · obtain rfl : j = 8 := by omega
        obtain ⟨q0, q1, _, _⟩ := hK.out _ hB
        have harm := arm_any _ N g _ _ ca ct hD
        have HDr := Lib.hid (And.intro hD (And.intro hB hE))
        clear hD hB hE
        go_wp2_with fail
        refine harm.mono ?_
        rintro e w6 ⟨rfl, hD6, t6⟩
        have hB6 := HDr.out.1.turned_below HDr.out.2.1 t6
        have hE6 := HDr.out.2.2.keep t6 (fun e => Hu.out u e rfl)
        have H6 := Lib.hid (And.intro hD6 (And.intro hB6 hE6))
        clear harm t6 HDr hD6 hB6 hE6 q0 q1
        go_wp2_with fail
        obtain ⟨hD6, hB6, hE6⟩ := H6.out
        clear H6
        go_loopw [9, 10, 11, 12, 13, 14] (fun tv sv iv _ _ _ W => ∃ (T : Int) (S : ByteArray) (i : Nat) (ss : List (List UInt8)) (d : Dk), tv = .int .i64 T ∧ sv = .string S ∧ iv = .int .i64 i ∧ i ≤ n ∧ ss.length = 8 ∧ Hid (okS ss) ∧ Hid (PhaseT ca ct i ss d T S) ∧ DiskAt W w0.heap.size N g d ∧ Below w0.heap.size w0 W ∧ EightS W u ss 8) (fun _ _ iv _ _ _ _ => n - (intOf iv).toNat)
        case atStart => exact ⟨-1, ⟨#[]⟩, 0, s0, _, rfl, rfl, rfl, by omega, hs0l, Lib.hid hD6.ok.ss, Lib.hid (.inl ⟨rfl, 0, by omega, by omega, rfl⟩), hD6, hB6, hE6⟩
        case round =>
          clear hD6 hB6 hE6 hs0l
          obtain ⟨T, S, i, ss, d, rfl, rfl, rfl, hi, hss, hok, hP, hD, hB, hE⟩ := hrel
          obtain ⟨k0, k1, k2, k3⟩ := hK.out _ hB
          by_cases hlt : i < n
          · obtain ⟨ab, off, hl, rfl, hbl, a0, a1, a2, a3, a4⟩ := k3.at_ hlt
            have hd5 := Hd500.out _ (List.getElem_mem hl)
            have HA := Lib.hid (And.intro hD (And.intro hB hE))
            obtain ⟨ps, hps⟩ : ∃ ps, la[i].pos = ps := ⟨_, rfl⟩
            obtain ⟨x, hx⟩ : ∃ x, la[i].data = x := ⟨_, rfl⟩
            rw [hps] at a1
            rw [hx] at a2 hd5
            clear k0 k1 k2 k3 hD hB hE hps hx
            have HAl : Hid (∀ o, DiskAt (wr.alloc o) w0.heap.size N g d ∧ Below w0.heap.size w0 (wr.alloc o) ∧ EightS (wr.alloc o) u ss 8) := Lib.hid fun o => ⟨HA.out.1.alloc o, HA.out.2.1.alloc HA.out.2.1.size o, HA.out.2.2.below ((Below.refl _ wr).alloc (Nat.le_refl _) o)⟩
            by_cases hp0 : ps < 0
            · go_wp2
              exact ⟨⟨T, S, i + 1, ss, d, rfl, rfl, by go_num, by omega, hss, hok, Lib.hid hP.out.more, (HAl.out _).1, (HAl.out _).2.1, (HAl.out _).2.2⟩, by simp [intOf]; omega⟩
            by_cases hp8 : 8 ≤ ps
            · go_wp2
              exact ⟨⟨T, S, i + 1, ss, d, rfl, rfl, by go_num, by omega, hss, hok, Lib.hid hP.out.more, (HAl.out _).1, (HAl.out _).2.1, (HAl.out _).2.2⟩, by simp [intOf]; omega⟩
            by_cases hx64 : 64 < x.size
            · go_wp2
              exact ⟨⟨T, S, i + 1, ss, d, rfl, rfl, by go_num, by omega, hss, hok, Lib.hid hP.out.more, (HAl.out _).1, (HAl.out _).2.1, (HAl.out _).2.2⟩, by simp [intOf]; omega⟩
            obtain ⟨p, rfl⟩ : ∃ p : Nat, ps = p := ⟨ps.toNat, by omega⟩
            have hp : p < 8 := by omega
            have hq := heap_alloc_new wr (.cells #[.int .i64 la[i].kind, .int .i64 (p : Int), .string x, .int .i64 la[i].ca, .int .i64 la[i].ct] 36)
            have hqu : u ≠ wr.heap.size := fun e => by
              have := HA.out.2.2.lt
              omega
            have Hq := Lib.hid hq
            clear hq
            go_wp2_with fail
            obtain ⟨hD7, hB7, hE7⟩ := HAl.out (.cells #[.int .i64 la[i].kind, .int .i64 (p : Int), .string x, .int .i64 la[i].ca, .int .i64 la[i].ct] 36)
            have hq := Hq.out
            have hqN : ∀ b, mineD N g b → b ≠ wr.heap.size := fun b hb e => by
              have := (HA.out.1.blocks b hb).2
              omega
            clear Hq HAl HA a0 a1 a2 a3 a4
            generalize wr.alloc (.cells #[.int .i64 la[i].kind, .int .i64 (p : Int), .string x, .int .i64 la[i].ca, .int .i64 la[i].ct] 36) = w7 at hD7 hB7 hE7 hq ⊢
            generalize wr.heap.size = v at hq hqu hqN hbl ⊢
            refine (swrite_any w0.heap.size N g d w7 hD7 hB7.size (by have := hP.out.wr; omega) (p : Int) x (by unfold maxLen; omega)).mono ?_
            rintro e w8 ⟨rfl, hD8, t8⟩
            have hB8 := hD7.turned_below hB7 t8
            have hE8 := hE7.keep t8 (fun e => Hu.out u e rfl)
            have hq8 := t8.heap hq (fun e => hqN v e rfl)
            have b1 : w8.cell? ⟨v, 1, none⟩ = some (.int .i64 (p : Int)) := by rw [Lib.cell_of_heap hq8]; rfl
            have b2 : w8.cell? ⟨v, 2, none⟩ = some (.string x) := by rw [Lib.cell_of_heap hq8]; rfl
            obtain ⟨F, hF⟩ : ∃ F, sayD d (p : Int) x.data.toList = F := ⟨_, rfl⟩
            rw [hF]
            have HF := Lib.hid hF
            have H8 := Lib.hid (And.intro hD8 (And.intro hB8 (And.intro hE8 hq8)))
            clear hD7 hB7 hE7 hq hqN t8 hD8 hB8 hE8 hq8 hF
            go_wp2_with fail
            go_loopw [14] (fun fv W => ∃ k : Nat, x.size + k ≤ 64 ∧ fv = .string (textD (x.data.toList ++ List.replicate k 0)) ∧ W = w8) (fun fv _ => 64 - lenV fv)
            case atStart => exact ⟨0, by omega, by rw [List.replicate_zero, List.append_nil]; rfl, rfl⟩
            case round =>
              obtain ⟨k, hk, rfl, hW⟩ := hrel
              obtain rfl := hW
              have hYl : (textD (x.data.toList ++ List.replicate k 0)).size = x.size + k := by rw [text_size, List.length_append, List.length_replicate]; rfl
              by_cases hk64 : x.size + k < 64
              · have hnext : textD (x.data.toList ++ List.replicate k 0) ++ (⟨#[0]⟩ : ByteArray) = textD (x.data.toList ++ List.replicate (k + 1) 0) := by
                  rw [text_snoc, List.append_assoc, ← List.replicate_succ']
                have hYl2 : (textD (x.data.toList ++ List.replicate (k + 1) 0)).size = x.size + k + 1 := by rw [text_size, List.length_append, List.length_replicate]; show x.size + (k + 1) = _; omega
                have Hn := Lib.hid (And.intro hnext hYl2)
                obtain ⟨Y, hY⟩ : ∃ Y, textD (x.data.toList ++ List.replicate k 0) = Y := ⟨_, rfl⟩
                rw [hY] at hYl Hn ⊢
                have hY64 : Y.size < 64 := by omega
                have HY := Lib.hid hYl
                clear hnext hYl2 hY hYl b1 b2
                go_wp2
                go_roundw
                case rel => exact ⟨k + 1, by omega, by rw [Hn.out.1], by first | rfl | trivial⟩
                case measure =>
                  rw [Hn.out.1]
                  show 64 - (textD (x.data.toList ++ List.replicate (k + 1) 0)).size < 64 - Y.size
                  rw [Hn.out.2, HY.out]
                  omega
              · obtain ⟨y, hy⟩ : ∃ y, fillD x.data.toList = y := ⟨_, rfl⟩
                have hyl : y.length = 64 := by rw [← hy]; exact fill_len (by show x.size ≤ 64; omega)
                have hfull : textD (x.data.toList ++ List.replicate k 0) = textD y := by
                  rw [← hy]
                  unfold fillD
                  rw [show 64 - x.data.toList.length = k by show 64 - x.size = k; omega]
                rw [hfull] at hYl ⊢
                obtain ⟨Y, hY⟩ : ∃ Y, textD y = Y := ⟨_, rfl⟩
                rw [hY] at hYl ⊢
                have HY := Lib.hid (And.intro hY (And.intro hyl hy))
                have hY64 : ¬ Y.size < 64 := by omega
                clear hfull hY hyl hYl
                rcases hP.out with ⟨hT, z, hz0, hz1, hd⟩ | ⟨t, y2, z, ht, hT, hy2, hS, hz0, hz1, hd⟩
                · subst hd
                  subst hT
                  have hchk : checkD ⟨ss, ca, ct, false, z, 0⟩ (p : Int) = 0 := check_zero.2 ⟨rfl, by omega, by show (p : Int) < ss.length; omega⟩
                  by_cases hca : z + 1 - 0 = ca
                  · obtain ⟨e1, e2⟩ := write_hit (x := x.data.toList) hchk (by show x.size ≤ 64; omega) hca
                    have hF6 : F = 6 := by rw [← HF.out, e1]
                    subst hF6
                    have He2 := Lib.hid e2
                    clear e1 e2 hchk
                    go_wp2
                    obtain ⟨g1, g2, g3, _⟩ := H8.out
                    rw [He2.out, Int.toNat_natCast, HY.out.2.2] at g1
                    exact ⟨⟨p, Y, i + 1, ss, _, rfl, rfl, by go_num, by omega, hss, hok, Lib.hid (.inr ⟨p, y, z + 1, hp, rfl, HY.out.2.1, HY.out.1.symm, by omega, by push_cast; omega, rfl⟩), g1, g2, g3⟩, by simp [intOf]; omega⟩
                  · obtain ⟨e1, e2⟩ := write_miss (x := x.data.toList) hchk (by show x.size ≤ 64; omega) hca
                    have hF0 : F = 0 := by rw [← HF.out, e1]
                    subst hF0
                    have He2 := Lib.hid e2
                    have hE8 := H8.out.2.2.1
                    obtain ⟨tt, m1, m2, _⟩ := hE8.cell hp
                    have m3 : (0 : Int) ≤ (p : Int) := by omega
                    have m4 : (p : Int) < 8 := by omega
                    have hE9 := hE8.put hss p y
                    rw [HY.out.1] at hE9
                    have HE9 := Lib.hid hE9
                    clear e1 e2 hchk hE8 hE9
                    go_wp2
                    obtain ⟨g1, g2, g3, _⟩ := H8.out
                    rw [He2.out, Int.toNat_natCast, HY.out.2.2] at g1
                    exact ⟨⟨-1, S, i + 1, ss.set p y, _, rfl, rfl, by go_num, by omega, by rw [List.length_set]; exact hss, Lib.hid (hok.out.set p HY.out.2.1), Lib.hid (.inl ⟨rfl, z + 1, by omega, by push_cast; omega, rfl⟩), g1.keep (Turned.set (S := fun b => b = u) (j := p) (N := u) (v := .string Y) rfl) (fun b hb e => Hu.out b hb e), g2.setCell (p := ⟨u, p, none⟩) hwu (.string Y), HE9.out⟩, by simp [intOf]; omega⟩
                · have hdn : d.down = true := by rw [hd]
                  obtain ⟨e1, e2⟩ := write_off (p := (p : Int)) (x := x.data.toList) hdn
                  have hF6 : F = 6 := by rw [← HF.out, e1]
                  subst hF6
                  have hT0 : ¬ T < 0 := by omega
                  have He2 := Lib.hid e2
                  have Hd := Lib.hid (And.intro hT (And.intro hS hd))
                  clear e1 e2 hdn hd hT hS
                  go_wp2
                  obtain ⟨g1, g2, g3, _⟩ := H8.out
                  rw [He2.out] at g1
                  exact ⟨⟨T, S, i + 1, ss, d, rfl, rfl, by go_num, by omega, hss, hok, Lib.hid (.inr ⟨t, y2, z, ht, Hd.out.1, hy2, Hd.out.2.1, hz0, by push_cast; omega, Hd.out.2.2⟩), g1, g2, g3⟩, by simp [intOf]; omega⟩
          · obtain rfl : i = n := by omega
            have hdn := down_any _ _ _ _ _ hD
            have hst := sstart_any _ _ _ _ _ hD
            have H9 := Lib.hid (And.intro hD (And.intro hB hE))
            have hdT : Hid (d.down = decide (0 ≤ T)) := Lib.hid (by
              rcases hP.out with ⟨hT, z, _, _, hd⟩ | ⟨t, y2, z, ht, hT, _, _, _, _, hd⟩
              · rw [hd, hT]; rfl
              · rw [hd, hT]; exact (decide_eq_true (by omega)).symm)
            rw [hdT.out] at hdn
            clear hD hB hE k0 k1 k2 k3
            go_wp2_with (go_at_call 20; refine hdn.mono ?_; rintro e w9 ⟨rfl, h9⟩; obtain rfl := h9.symm; clear h9)
            refine hst.mono ?_
            rintro e w8 ⟨rfl, hD8, t8⟩
            have hB8 := H9.out.1.turned_below H9.out.2.1 t8
            have hE8 := H9.out.2.2.keep t8 (fun e => Hu.out u e rfl)
            have H8 := Lib.hid (And.intro hD8 (And.intro hB8 hE8))
            obtain ⟨hdl, hfin⟩ := hP.out.fin hss
            have Hfin := Lib.hid hfin
            clear hst hdn H9 t8 hD8 hB8 hE8 hfin hdT
            go_wp2_with fail
            obtain ⟨hD8, hB8, hE8⟩ := H8.out
            clear H8
            go_loopw [15, 16, 17, 18] (fun jv _ _ _ W => ∃ j : Nat, j ≤ 8 ∧ jv = .int .i64 j ∧ DiskAt W w0.heap.size N g (startD d) ∧ Below w0.heap.size w0 W ∧ EightS W u ss 8) (fun jv _ _ _ _ => 8 - (intOf jv).toNat)
            case atStart => exact ⟨0, by omega, rfl, hD8, hB8, hE8⟩
            case round =>
              clear hD8 hB8 hE8
              obtain ⟨j, hj, rfl, hD, hB, hE⟩ := hrel
              obtain ⟨k0, k1, k2, k3⟩ := hK.out _ hB
              by_cases hj8 : j < 8
              · have hjl : j < (startD d).ss.length := by show j < d.ss.length; omega
                have hr := sread_ok _ N g _ _ hD rfl j hjl
                obtain ⟨t, m1, _, m2⟩ := hE.cell hj8
                have m3 : (0 : Int) ≤ (j : Int) := by omega
                have m4 : (j : Int) < 8 := by omega
                have hl64 : (textD ((startD d).ss[j]'hjl)).size = 64 := by
                  rw [text_size]
                  exact hD.ok.ss.get hjl
                have hX0 : textD ((startD d).ss[j]'hjl) = textD (d.ss.getD j []) := by
                  rw [List.getD_eq_getElem?_getD, List.getElem?_eq_getElem (show j < d.ss.length by omega), Option.getD_some]
                  rfl
                have m5 := m2 hj8
                obtain ⟨f1, f2⟩ := Hfin.out j hj8
                have H9 := Lib.hid (And.intro hD (And.intro hB hE))
                rw [hX0] at hr hl64
                clear hX0 m2 hD hB hE k3
                by_cases hjT : (j : Int) = T
                · obtain ⟨y, hy, hS, e⟩ := f2 hjT
                  have hjl8 : j < ss.length := by omega
                  have hz64 : (ss.getD j []).length = 64 := by
                    rw [List.getD_eq_getElem?_getD, List.getElem?_eq_getElem hjl8, Option.getD_some]
                    exact hok.out.get hjl8
                  rw [e, text_torn y _ _ hz64, ← hS, ← m5] at hr
                  have hS64 : S.size = 64 := by rw [hS, text_size]; exact hy
                  have ht64 : t.size = 64 := by rw [m5, text_size]; exact hz64
                  have hjb : ((j : Int) == T) = true := by rw [beq_iff_eq]; exact hjT
                  have hjb2 : ((j : Int) != T) = false := by rw [bne_eq_false_iff_eq]; exact hjT
                  rw [e, text_torn y _ _ hz64, ← hS, ← m5] at hl64
                  have htn : ((tornN ct : Nat) : Int) = max 0 (min ct 64) := by unfold tornN; omega
                  have htl := torn_le ct
                  obtain ⟨nn, hnn⟩ : ∃ nn, tornN ct = nn := ⟨_, rfl⟩
                  rw [hnn] at htn htl hr hl64
                  obtain ⟨X, hX⟩ : ∃ X, S.extract 0 nn ++ t.extract nn 64 = X := ⟨_, rfl⟩
                  rw [hX] at hr hl64
                  have HX := Lib.hid hX
                  have HS := Lib.hid (And.intro hS64 ht64)
                  clear f1 f2 e hy hS hjT m5 hnn hX hz64 hS64 ht64
                  go_upto_region 44 with (go_at_call 13; refine hr.mono ?_; rintro e w9 ⟨rfl, h9⟩; obtain rfl := h9.symm; clear h9)
                  go_cut [18] from 131 (fun tv wx => tv = .int .i64 (nn : Int) ∧ wx = wr)
                  case first =>
                    clear hl64 hr m1
                    go_wp2_with fail
                    all_goals
                      go_meet
                      refine ⟨?_, rfl⟩
                      congr 1
                      omega
                  case rest =>
                    obtain ⟨rfl, h9⟩ := hcut
                    obtain rfl := h9.symm
                    have HT := Lib.hid htn
                    obtain ⟨hS64, ht64⟩ := HS.out
                    have n1 : (0 : Int) ≤ (nn : Int) := by omega
                    have n2 : (nn : Int) ≤ (S.size : Int) := by omega
                    have n3 : (nn : Int) ≤ (t.size : Int) := by omega
                    have hXE : S.extract 0 nn ++ t.extract nn t.size = X := by rw [ht64]; exact HX.out
                    have hadd : ∀ W : World, (Op.stringOp .add (S.extract 0 nn) (t.extract nn t.size)).run Try.prog W = .ok (.string X) W := fun W => by
                      rw [← hXE]
                      exact run_string_add_sum (a := S.extract 0 nn) (b := t.extract nn t.size) (h := by rw [ByteArray.size_extract, ByteArray.size_extract]; omega) ..
                    clear h9 htn hr hl64 k0 k1 hS64 ht64 HX hXE
                    go_wp2_with fail
                    go_quiet (fail)
                    go_wp2
                    exact ⟨⟨j + 1, by omega, by go_num, H9.out.1.below (below_drewN (Below.refl wr.heap.size _) _), below_drewN H9.out.2.1 _, H9.out.2.2.below (below_drewN (Below.refl wr.heap.size _) _)⟩, by simp [intOf]; omega⟩
                · have hjb : ((j : Int) == T) = false := by rw [beq_eq_false_iff_ne]; exact hjT
                  have hjb2 : ((j : Int) != T) = true := by rw [bne_iff_ne]; exact hjT
                  rw [f1 hjT, ← m5] at hr hl64
                  clear f1 f2 m5 hjT
                  go_wp2_with (go_at_call 13; refine hr.mono ?_; rintro e w9 ⟨rfl, h9⟩; obtain rfl := h9.symm; clear h9)
                  exact ⟨⟨j + 1, by omega, by go_num, H9.out.1, H9.out.2.1, H9.out.2.2⟩, by simp [intOf]; omega⟩
              · obtain rfl : j = 8 := by omega
                have Hb := Lib.hid k2
                clear hD hB hE k0 k1 k2 k3
                go_wp2
                go_ret
                exact ⟨rfl, by rw [hb]; exact Hb.out⟩
end Go.Proofs.Ytjmphdpeaahmfaa
