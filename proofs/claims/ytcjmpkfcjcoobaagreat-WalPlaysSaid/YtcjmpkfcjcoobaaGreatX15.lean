/-
  Texts of this proof, put together: Sh4.
-/
import Derived.Test.YtcjmpkfcjcoobaaGreatX14
import Derived.OwnWalk
namespace Go.Proofs.YtcjmpkfcjcoobaaGreat
open Go.RowKit

def chW (e f g : Int) : Int := bits .xor .u32 (bits .and .u32 e f) (bits .and .u32 (bits .xor .u32 (if IntKind.u32.signed = true then -1 else IntKind.u32.max) e) g)
def bigE (e : Int) : Int := bits .xor .u32 (bits .xor .u32 (turnW e 6) (turnW e 11)) (turnW e 25)
def bigA (a : Int) : Int := bits .xor .u32 (bits .xor .u32 (turnW a 2) (turnW a 13)) (turnW a 22)
def majW (a b c : Int) : Int := bits .xor .u32 (bits .xor .u32 (bits .and .u32 a b) (bits .and .u32 a c)) (bits .and .u32 b c)
structure St8 where
  a : Int
  b : Int
  c : Int
  d : Int
  e : Int
  f : Int
  g : Int
  h : Int
def St8.list (s : St8) : List Int := [s.a, s.b, s.c, s.d, s.e, s.f, s.g, s.h]
def firstW (s : St8) (w k : Int) : Int := (s.h + bigE s.e + chW s.e s.f s.g + w + k) % 4294967296
def secondW (s : St8) : Int := (bigA s.a + majW s.a s.b s.c) % 4294967296
def roundW (s : St8) (w k : Int) : St8 := ⟨(firstW s w k + secondW s) % 4294967296, s.a, s.b, s.c, (s.d + firstW s w k) % 4294967296, s.e, s.f, s.g⟩
/-- So many rounds, with the table ks, from the i-th on. -/
def roundsW (ks ws : List Int) (s : St8) : Nat → St8
  | 0 => s
  | i + 1 => roundW (roundsW ks ws s i) (ws[i]?.getD 0) (ks[i]?.getD 0)
def St8.plus (s t : St8) : St8 := ⟨(s.a + t.a) % 4294967296, (s.b + t.b) % 4294967296, (s.c + t.c) % 4294967296, (s.d + t.d) % 4294967296, (s.e + t.e) % 4294967296, (s.f + t.f) % 4294967296, (s.g + t.g) % 4294967296, (s.h + t.h) % 4294967296⟩
def mixP (ks : List Int) (s : St8) (bytes : List UInt8) : St8 := s.plus (roundsW ks (spreadP bytes) s 64)

/-- Words added to words, the first i. -/
def plusN (s t : List Int) : Nat → List Int
  | 0 => s
  | i + 1 => (plusN s t i).set i (((plusN s t i)[i]?.getD 0 + t[i]?.getD 0) % 4294967296)
theorem plusN_len (s t : List Int) : ∀ i, (plusN s t i).length = s.length
  | 0 => rfl
  | i + 1 => by rw [plusN, List.length_set, plusN_len s t i]
/-- A digest's table of rounds, at its place in a block. -/
def TabAt (w : World) (b k : Nat) (ks : List Int) : Prop := ∀ j, j < 64 → w.cell? ⟨b, k + 8 + j, none⟩ = some (.int .u32 (ks[j]?.getD 0))

set_option maxRecDepth 100000 in
set_option maxHeartbeats 4000000 in
theorem mix_any (b k u : Nat) (ks : List Int) (st : St8) (s : ByteArray) (hs : s.size = 64) (w : World) (ht : TabAt w b k ks) (hb : b < w.heap.size) (hu : WordsAt w u st.list 97) :
    Calls Tryz.prog 76 #[.pointer (some ⟨b, k, none⟩), .pointer (some ⟨u, 0, none⟩), .string s] w fun e w' => e = .returned (.tuple #[]) ∧ WordsAt w' u (mixP ks st s.data.toList).list 97 ∧ Turned (fun x => x = u) w w' := by
  have c0 := hu.cell (j := 0) (by show _ < 8; omega)
  have c1 := hu.cell (j := 1) (by show _ < 8; omega)
  have c2 := hu.cell (j := 2) (by show _ < 8; omega)
  have c3 := hu.cell (j := 3) (by show _ < 8; omega)
  have c4 := hu.cell (j := 4) (by show _ < 8; omega)
  have c5 := hu.cell (j := 5) (by show _ < 8; omega)
  have c6 := hu.cell (j := 6) (by show _ < 8; omega)
  have c7 := hu.cell (j := 7) (by show _ < 8; omega)
  simp only [St8.list, List.getElem?_cons_zero, List.getElem?_cons_succ, Option.getD_some] at c0 c1 c2 c3 c4 c5 c6 c7
  have HU := Lib.hid (And.intro hu (And.intro ht (And.intro hb hs)))
  clear hu ht hb hs
  go_enter Tryz.func76, Tryz.ntmps76
  go_wp2
  go_quiet (fail)
  have hsp := spread_any s HU.out.2.2.2 (w.drewN nq)
  have hb0 : Below w.heap.size w (w.drewN nq) := below_drewN (Below.refl _ _) nq
  have Hlen : Hid ((spreadP s.data.toList).length = 64) := Lib.hid (spread_len _)
  obtain ⟨ws, hws⟩ : ∃ ws, spreadP s.data.toList = ws := ⟨_, rfl⟩
  rw [hws] at hsp Hlen
  have Hws := Lib.hid hws
  obtain ⟨F, hF⟩ : ∃ F, (wordsV ws).toArray = F := ⟨_, rfl⟩
  rw [hF] at hsp
  have HF := Lib.hid hF
  clear hws hF c0 c1 c2 c3 c4 c5 c6 c7
  go_wp2_with (go_at_call 106; refine hsp.mono ?_; rintro e w2 ⟨rfl, hb2⟩)
  have hb3 : Below w.heap.size w w2 := hb0.trans hb2
  clear hsp hb0 hb2
  go_loopw [6, 7, 8, 9, 10, 11, 12, 13, 54] (fun av bv cv dv ev fv gv hv iv wr => ∃ (i : Nat) (a b c d e f g h : Int), i ≤ 64 ∧ iv = .int .i64 i ∧ Hid ((⟨a, b, c, d, e, f, g, h⟩ : St8) = roundsW ks ws st i) ∧ av = .int .u32 a ∧ bv = .int .u32 b ∧ cv = .int .u32 c ∧ dv = .int .u32 d ∧ ev = .int .u32 e ∧ fv = .int .u32 f ∧ gv = .int .u32 g ∧ hv = .int .u32 h ∧ Below w.heap.size w wr) (fun _ _ _ _ _ _ _ _ iv _ => 64 - (intOf iv).toNat)
  case atStart => exact ⟨0, st.a, st.b, st.c, st.d, st.e, st.f, st.g, st.h, by omega, rfl, Lib.hid rfl, rfl, rfl, rfl, rfl, rfl, rfl, rfl, rfl, hb3⟩
  case round =>
    clear hb3
    obtain ⟨i, a, b', c, d, e, f, g, h, hi, rfl, ht, rfl, rfl, rfl, rfl, rfl, rfl, rfl, rfl, hbr⟩ := hrel
    by_cases hlt : i < 64
    · have hk : wr.cell? ⟨b, k + 8 + i, none⟩ = some (.int .u32 (ks[i]?.getD 0)) := by
        rw [hbr.cell (p := ⟨b, k + 8 + i, none⟩) HU.out.2.2.1]
        exact HU.out.2.1 i hlt
      have hFi : F[i]? = some (.int .u32 (ws[i]?.getD 0)) := by
        rw [← HF.out]
        simp [wordsV, Hlen.out, hlt]
      iterate 10 go_step
      refine wp_cond (t := decide ((i : Int) < 64)) rfl ?_
      rw [if_pos (by rw [decide_eq_true_eq]; omega)]
      go_wp2_with (((with_reducible refine wpList_index_agg rfl 98 (.tmp 53) (.tmp 54) rfl F i ?_ ?_ 64 76 Tryz.underlying98 hlt ?_ ?_ _ hFi ?_); (· rfl); (· rfl); (· kernel_rfl); (· kernel_rfl)))
      clear hFi
      go_quiet ((go_at_call 107; exact Calls.quiet_of_same (turned_z _ _ (by decide) (by decide) _)))
      clear hk
      have hbq : Below w.heap.size w (wr.drewN nq) := below_drewN hbr nq
      clear hbr
      generalize wr.drewN nq = wq at hbq ⊢
      go_wp2_with (go_at_call 107; refine (turned_z _ _ (by decide) (by decide) _).mono ?_; rintro e w' ⟨rfl, rfl⟩)
      go_roundw
      case rel => exact ⟨i + 1, _, _, _, _, _, _, _, _, by omega, by go_num, Lib.hid (by rw [roundsW, ← ht.out]; rfl), rfl, rfl, rfl, rfl, rfl, rfl, rfl, rfl, hbq⟩
      case measure => simp [intOf]; omega
    · obtain rfl : i = 64 := by omega
      iterate 10 go_step
      refine wp_cond (t := decide (((64 : Nat) : Int) < 64)) rfl ?_
      rw [if_neg (by decide)]
      have hu : WordsAt wr u st.list 97 := HU.out.1.keep (S := fun _ => False) (Turned.of_below hbr (Nat.le_refl _)) (fun h => h)
      have htr : Turned (fun x => x = u) w wr := Turned.of_below hbr (Nat.le_refl _)
      have Ht : Hid (mixP ks st s.data.toList = st.plus ⟨a, b', c, d, e, f, g, h⟩) := Lib.hid (by unfold mixP; rw [Hws.out, ← ht.out])
      clear ht hbr Hlen Hws HF HU
      go_wp2
      go_loopw [128] (fun iv wr => ∃ (i : Nat), i ≤ 8 ∧ iv = .int .i64 i ∧ WordsAt wr u (plusN st.list [a, b', c, d, e, f, g, h] i) 97 ∧ Turned (fun x => x = u) w wr) (fun iv _ => 8 - (intOf iv).toNat)
      case atStart => exact ⟨0, by omega, rfl, hu, htr⟩
      case round =>
        clear hu htr
        obtain ⟨i, hi, rfl, hu, htr⟩ := hrel
        have hlen : (plusN st.list [a, b', c, d, e, f, g, h] i).length = 8 := plusN_len _ _ i
        obtain ⟨L, hL⟩ : ∃ L, plusN st.list [a, b', c, d, e, f, g, h] i = L := ⟨_, rfl⟩
        have HL := Lib.hid hL
        rw [hL] at hu hlen
        by_cases hlt : i < 8
        · have hci := hu.cell (j := i) (by omega)
          have hfi := hu.frozen i
          obtain ⟨y, hy⟩ : ∃ y, ([a, b', c, d, e, f, g, h] : List Int)[i]? = some y := ⟨_, List.getElem?_eq_getElem (by simpa using hlt)⟩
          have hFi : (#[.int .u32 a, .int .u32 b', .int .u32 c, .int .u32 d, .int .u32 e, .int .u32 f, .int .u32 g, .int .u32 h] : Array Value)[i]? = some (.int .u32 y) := by
            have := congrArg (Option.map (Value.int .u32)) hy
            rw [← List.getElem?_map] at this
            simpa using this
          have hset := hu.set i ((L[i]?.getD 0 + y) % 4294967296)
          have htr2 := htr.trans (Turned.set (S := fun x => x = u) (w := wr) (N := u) (j := i) (v := .int .u32 ((L[i]?.getD 0 + y) % 4294967296)) rfl) (fun b e => .inl e)
          have hnext : plusN st.list [a, b', c, d, e, f, g, h] (i + 1) = L.set i ((L[i]?.getD 0 + y) % 4294967296) := by
            rw [plusN, hL, hy]
            rfl
          have H := Lib.hid (And.intro hset (And.intro htr2 hnext))
          have HFi := Lib.hid hFi
          clear hset htr2 hnext hu htr hL hlen hy hFi
          iterate 10 go_step
          refine wp_cond (t := decide ((i : Int) < 8)) rfl ?_
          rw [if_pos (by rw [decide_eq_true_eq]; omega)]
          go_wp2_with (((with_reducible refine wpList_index_agg rfl 97 (.tmp 127) (.tmp 128) rfl #[.int .u32 a, .int .u32 b', .int .u32 c, .int .u32 d, .int .u32 e, .int .u32 f, .int .u32 g, .int .u32 h] i ?_ ?_ 8 76 Tryz.underlying97 hlt ?_ ?_ _ HFi.out ?_); (· rfl); (· rfl); (· kernel_rfl); (· kernel_rfl)))
          --@j
          go_region
          all_goals
            go_wp2
            go_roundw
            case rel => exact ⟨_, _, _, _, _, _, _, _, _, _, _, _, _, _, _, _, ⟨i + 1, by omega, by go_num, by rw [H.out.2.2]; exact H.out.1, H.out.2.1.trans (T := fun _ => False) Turned.drew (fun _ h => h.elim)⟩, rfl⟩
            case measure => simp [intOf]; omega
        · obtain rfl : i = 8 := by omega
          iterate 10 go_step
          refine wp_cond (t := decide (((8 : Nat) : Int) < 8)) rfl ?_
          rw [if_neg (by decide)]
          have hfin : WordsAt wr u (mixP ks st s.data.toList).list 97 := by
            rw [Ht.out]
            rw [← HL.out] at hu
            exact hu
          have H := Lib.hid (And.intro hfin htr)
          clear hfin htr hu hL hlen
          go_wp2
          (first | go_end0 | (simp only [Exit.inBlock, Exit.then]; refine bodyPost_ret (results_none rfl _ _ _) rfl ?_) | refine bodyPost_ret (results_none rfl _ _ _) rfl ?_)
          exact ⟨rfl, H.out.1, H.out.2⟩
end Go.Proofs.YtcjmpkfcjcoobaaGreat
