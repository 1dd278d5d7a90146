/-
  Texts of this proof, put together: StM, StN.
-/
import Derived.Test.YtgpdplffljidbaaGreatDoorZ27
namespace Go.Proofs.YtgpdplffljidbaaGreatDoor
open Go.RowKit Go.Maps

def pickL (H : List UInt8 → List UInt8) (ss : List (List UInt8)) (fr sz : Nat) : Nat → List (List UInt8) × PlP
  | 0 => ([], ⟨0, 0, 0, 0⟩)
  | k + 1 =>
    let h := hearL H (sz + 1) (halfD ss (fr + k * sz) sz) ⟨k, 0, 0, 0⟩ []
    if h.1 ≠ [] ∧ ((pickL H ss fr sz k).1 = [] ∨ (pickL H ss fr sz k).2.gen < h.2.gen) then h else pickL H ss fr sz k
def openT : List PairP → List (List UInt8) → Option (List PairP)
  | ps, [] => some ps
  | ps, t :: ts => match parseL t.length t with
    | none => none
    | some l => openT (behindP ps l) ts
theorem head_five9 {s r : List UInt8} {c : Ch} (h : headL s = some (c, r)) : r.length + 5 ≤ s.length := by
  unfold headL at h
  split at h
  · split at h
    · cases h
    · simp only [Option.some.injEq, Prod.mk.injEq] at h
      rw [← h.2, List.length_drop]
      simp only [List.length_cons]
      omega
  · cases h
theorem parse_count : ∀ (f : Nat) (s : List UInt8) {l : List Ch}, parseL f s = some l → 5 * l.length ≤ s.length
  | _, [], l, h => by
    rw [show parseL _ ([] : List UInt8) = some [] by simp [parseL]] at h
    cases h
    simp
  | 0, b :: s, l, h => by simp [parseL] at h
  | f + 1, b :: s, l, h => by
    rw [parseL] at h
    cases hd : headL (b :: s) with
    | none =>
      rw [hd] at h
      cases h
    | some cr =>
      obtain ⟨c, r⟩ := cr
      rw [hd] at h
      simp only [Option.map_eq_some_iff] at h
      obtain ⟨l', h1, rfl⟩ := h
      have := head_five9 hd
      have := parse_count f r h1
      rw [List.length_cons]
      omega
theorem read_gen {H : List UInt8 → List UInt8} {ss : List (List UInt8)} {g n : Nat} {t : List UInt8} (h : readR H ss = some (g, n, t)) (h64 : ∀ s ∈ ss, s.length = 64) : g < 4294967296 := by
  match ss, h, h64 with
  | s :: ss, h, h64 =>
    have hs := h64 s (List.mem_cons_self ..)
    unfold readR at h
    simp only at h
    split at h
    · simp only [Option.some.injEq, Prod.mk.injEq] at h
      rw [← h.1, val4_valF _ (by rw [List.length_take, List.length_drop]; omega)]
      exact valF_four _ (by rw [List.length_take]; omega)
    · cases h
theorem hear_ok (H : List UInt8 → List UInt8) (ss : List (List UInt8)) : ∀ (f : Nat) (p : PlP) (ts : List (List UInt8)), p.at_ ≤ ss.length → p.gen < 4294967296 → p.num ≤ p.at_ → ts.length ≤ p.at_ → (∀ t ∈ ts, t.length ≤ 64 * ss.length) → (∀ s ∈ ss, s.length = 64) →
    (hearL H f ss p ts).2.half = p.half ∧ (hearL H f ss p ts).2.at_ ≤ ss.length ∧ (hearL H f ss p ts).2.gen < 4294967296 ∧ (hearL H f ss p ts).2.num ≤ (hearL H f ss p ts).2.at_ ∧ (hearL H f ss p ts).1.length ≤ ss.length ∧ ∀ t ∈ (hearL H f ss p ts).1, t.length ≤ 64 * ss.length
  | 0, p, ts, h1, h2, h3, h4, h5, _ => ⟨rfl, h1, h2, h3, Nat.le_trans h4 h1, h5⟩
  | f + 1, p, ts, h1, h2, h3, h4, h5, h6 => by
    rw [hearL]
    cases hr : readR H (ss.drop p.at_) with
    | none => exact ⟨rfl, h1, h2, h3, Nat.le_trans h4 h1, h5⟩
    | some r =>
      obtain ⟨g, n, t⟩ := r
      simp only
      by_cases hc : n = p.num ∧ (ts = [] ∨ g = p.gen)
      · rw [if_pos hc]
        obtain ⟨q1, q2⟩ := read_room hr
        rw [List.length_drop] at q1 q2
        have hp := secN_pos t.length
        have hg : g < 4294967296 := read_gen hr (fun s hs => h6 s (List.mem_of_mem_drop hs))
        refine hear_ok H ss f (plNext ⟨p.half, p.at_, g, n⟩ t.length) (ts ++ [t]) ?_ hg ?_ ?_ ?_ h6
        · show p.at_ + secN t.length ≤ _
          omega
        · show n + 1 ≤ p.at_ + secN t.length
          omega
        · rw [List.length_append]
          show ts.length + 1 ≤ p.at_ + secN t.length
          omega
        · intro x hx
          rcases List.mem_append.1 hx with hx | hx
          · exact h5 x hx
          · simp only [List.mem_cons, List.not_mem_nil, or_false] at hx
            subst hx
            omega
      · rw [if_neg hc]
        exact ⟨rfl, h1, h2, h3, Nat.le_trans h4 h1, h5⟩
theorem pick_ok (H : List UInt8 → List UInt8) {ss : List (List UInt8)} {fr sz : Nat} (h64 : ∀ s ∈ ss, s.length = 64) (hfit : fr + 2 * sz ≤ ss.length) : ∀ k, k ≤ 2 →
    (pickL H ss fr sz k).1.length ≤ sz ∧ (∀ t ∈ (pickL H ss fr sz k).1, t.length ≤ 64 * sz) ∧ (pickL H ss fr sz k).2.half ≤ 1 ∧ (pickL H ss fr sz k).2.at_ ≤ sz ∧ (pickL H ss fr sz k).2.gen < 4294967296 ∧ (pickL H ss fr sz k).2.num ≤ (pickL H ss fr sz k).2.at_
  | 0, _ => ⟨Nat.zero_le _, (fun t ht => by cases ht), (by show 0 ≤ 1; omega), Nat.zero_le _, (by show 0 < 4294967296; omega), Nat.le_refl _⟩
  | k + 1, hk => by
    have ih := pick_ok H h64 hfit k (by omega)
    have hfk : fr + k * sz + sz ≤ ss.length := by
      rcases (show k = 0 ∨ k = 1 by omega) with rfl | rfl <;> omega
    have hl := half_len hfk
    have hh := hear_ok H (halfD ss (fr + k * sz) sz) (sz + 1) ⟨k, 0, 0, 0⟩ [] (Nat.zero_le _) (by show 0 < _; omega) (Nat.le_refl _) (Nat.le_refl _) (fun t ht => by cases ht) (fun s hs => h64 s (half_mem hs))
    rw [hl] at hh
    rw [pickL]
    by_cases hc : (hearL H (sz + 1) (halfD ss (fr + k * sz) sz) ⟨k, 0, 0, 0⟩ []).1 ≠ [] ∧ ((pickL H ss fr sz k).1 = [] ∨ (pickL H ss fr sz k).2.gen < (hearL H (sz + 1) (halfD ss (fr + k * sz) sz) ⟨k, 0, 0, 0⟩ []).2.gen)
    · rw [if_pos hc]
      exact ⟨hh.2.2.2.2.1, hh.2.2.2.2.2, by rw [hh.1]; show k ≤ 1; omega, hh.2.1, hh.2.2.1, hh.2.2.2.1⟩
    · rw [if_neg hc]
      exact ih
theorem open_step (ps : List PairP) (ts : List (List UInt8)) (j : Nat) (h : j < ts.length) : openT ps (ts.drop j) = match parseL (ts.getD j []).length (ts.getD j []) with
    | none => none
    | some l => openT (behindP ps l) (ts.drop (j + 1)) := by
  rw [List.drop_eq_getElem_cons h, List.getD_eq_getElem?_getD, List.getElem?_eq_getElem h, Option.getD_some]
  rfl
end Go.Proofs.YtgpdplffljidbaaGreatDoor
namespace Go.Proofs.YtgpdplffljidbaaGreatDoor
open Go.RowKit Go.Maps

theorem StoreAt.whole {w w' : World} {B N Nd g m n : Nat} {cs : Array Value} {st : StP} {d : Dk} {ps : List PairP} (h : StoreAt w B N Nd g m n cs st d ps) (k : WholeKept N Nd m st w w') : ∃ cs', StoreAt w' B N Nd g m n cs' st d ps := by
  obtain ⟨cs', h1, h2, t⟩ := k
  exact ⟨cs', h1, h2, h.disk.keep t (fun b hb e => h.apart b hb e), h.map.keep t (fun e => h.mN e), h.apart⟩
structure OpenAt (w : World) (B N Nd g m : Nat) (st : StP) (d : Dk) (ps : List PairP) (n : Nat) (v : Value) (ts : List (List UInt8)) (W : World) : Prop where
  store : ∃ cs, StoreAt W B N Nd g m n cs st d ps
  lo : Below w.heap.size w W
  bN : w.heap.size ≤ N
  bm : w.heap.size ≤ m
  row : OwnT9 w.heap.size W v ts
section
variable {w W W' : World} {B N Nd g m n : Nat} {st : StP} {d : Dk} {ps : List PairP} {v : Value} {ts : List (List UInt8)}
theorem OpenAt.below (h : OpenAt w B N Nd g m st d ps n v ts W) (hb : Below W.heap.size W W') : OpenAt w B N Nd g m st d ps n v ts W' := by
  obtain ⟨cs, hs⟩ := h.store
  exact ⟨⟨cs, hs.below hb⟩, h.lo.trans (hb.mono h.lo.size), h.bN, h.bm, ownsRow_below4 h.row hb⟩
theorem OpenAt.whole (h : OpenAt w B N Nd g m st d ps n v ts W) (k : WholeKept N Nd m st W W') : OpenAt w B N Nd g m st d ps n v ts W' := by
  obtain ⟨cs, hs⟩ := h.store
  have hk := hs.whole k
  obtain ⟨cs', h1, h2, t⟩ := k
  refine ⟨hk, h.lo.trans (t.below h.lo.size (fun b e => by rw [e]; exact h.bN)), h.bN, h.bm, t.row h.row (fun b hb e => ?_)⟩
  subst e
  obtain ⟨_, cur, hcur⟩ := row_block h.row hb
  have := hs.held
  unfold Held9 at this
  rw [this] at hcur
  simp at hcur
theorem OpenAt.changed {ps' : List PairP} {n' : Nat} (h : OpenAt w B N Nd g m st d ps n v ts W) (t : Turned (fun b => b = m) W W') (hm : MapP W' m n' ps') : OpenAt w B N Nd g m st d ps' n' v ts W' := by
  obtain ⟨cs0, hs⟩ := h.store
  refine ⟨⟨cs0, hs.held.of_turned t (fun e => hs.mN e.symm), hs.ok, hs.disk.keep t (fun b hb e => hs.mD (e ▸ hb)), hm, hs.apart⟩, h.lo.trans (t.below h.lo.size (fun b e => by rw [e]; exact h.bm)), h.bN, h.bm, t.row h.row (fun b hb e => ?_)⟩
  subst e
  obtain ⟨_, cur, hcur⟩ := row_block h.row hb
  obtain ⟨es, clock, hmb⟩ := hs.map.block
  rw [hmb] at hcur
  cases hcur
theorem OpenAt.pick {v2 : Value} {ts2 : List (List UInt8)} {q : PlP} {cs : Array Value} (h : OpenAt w B N Nd g m st d ps n v ts W) (t : Turned (fun b => b = N) W W') (hr : OwnT9 w.heap.size W v2 ts2) (hh : Held9 W' N cs 110) (hc : CellsOk cs Nd m ⟨st.fr, st.sz, q, st.lost⟩) :
    OpenAt w B N Nd g m ⟨st.fr, st.sz, q, st.lost⟩ d ps n v2 ts2 W' := by
  obtain ⟨cs0, hs⟩ := h.store
  refine ⟨⟨cs, hh, hc, hs.disk.keep t (fun b hb e => hs.apart b hb e), hs.map.keep t (fun e => hs.mN e), hs.apart⟩, h.lo.trans (t.below h.lo.size (fun b e => by rw [e]; exact h.bN)), h.bN, h.bm, t.row hr (fun b hb e => ?_)⟩
  subst e
  obtain ⟨_, cur, hcur⟩ := row_block hr hb
  have := hs.held
  unfold Held9 at this
  rw [this] at hcur
  simp at hcur
end

set_option maxRecDepth 100000 in
set_option maxHeartbeats 4000000 in
theorem open_any (B Nd g : Nat) (d : Dk) (w : World) (hd : DiskAt w B Nd g d) (_hB : B ≤ w.heap.size) (fr ct : Nat) (h4 : 4 ≤ ct) (h2 : ct % 2 = 0) (hct : ct ≤ 4200) (hfit : fr + ct ≤ d.ss.length) :
    Calls Tryz.prog 22 #[.pointer (some ⟨Nd, 0, none⟩), .int .i64 (fr : Int), .int .i64 (ct : Int)] w fun e w' => Below w.heap.size w w' ∧
      ((d.down = true ∧ e = .returned (.tuple #[.pointer none, .int .i64 6])) ∨
       (d.down = false ∧ ((pickL sumH d.ss fr (ct / 2) 2).1 = [] ∨ openT [] (pickL sumH d.ss fr (ct / 2) 2).1 = none) ∧ e = .returned (.tuple #[.pointer none, .int .i64 7])) ∨
       (d.down = false ∧ (pickL sumH d.ss fr (ct / 2) 2).1 ≠ [] ∧ ∃ ps N m n cs, openT [] (pickL sumH d.ss fr (ct / 2) 2).1 = some ps ∧ e = .returned (.tuple #[.pointer (some ⟨N, 0, none⟩), .int .i64 0]) ∧ n ≤ 100000000 ∧
         StoreAt w' B N Nd g m n cs ⟨fr, ct / 2, (pickL sumH d.ss fr (ct / 2) 2).2, false⟩ d ps ∧ w.heap.size ≤ N ∧ w.heap.size ≤ m)) := by
  have hfew := hd.few
  have hbl := blank_any B Nd g d w hd fr ct h4 h2 hfit
  obtain ⟨sz, hsz⟩ : ∃ sz, ct / 2 = sz := ⟨_, rfl⟩
  rw [hsz] at hbl ⊢
  have hsz2 : 2 * sz = ct := by omega
  have h64 := hd.ok.ss
  clear hd hsz
  go_enter Tryz.func22, Tryz.ntmps22
  go_wp2_with fail
  refine hbl.mono ?_
  rintro e w1 ⟨N, m, cs, rfl, hst, hN, hm, hb1⟩
  have hO0 : OpenAt w B N Nd g m ⟨fr, sz, (pickL sumH d.ss fr sz 0).2, false⟩ d [] 0 (.slice none 0 0) (pickL sumH d.ss fr sz 0).1 w1 := ⟨⟨cs, hst⟩, hb1, hN, hm, World.ownsRow_nil _ _ _ _⟩
  have HO0 := Lib.hid hO0
  clear hst hb1 hO0 hbl hN hm
  go_wp2_with fail
  go_loopw [10, 29] (fun v kv wr => ∃ k : Nat, k ≤ 2 ∧ kv = .int .i64 k ∧ (k = 0 ∨ d.down = false) ∧ OpenAt w B N Nd g m ⟨fr, sz, (pickL sumH d.ss fr sz k).2, false⟩ d [] 0 v (pickL sumH d.ss fr sz k).1 wr) (fun _ kv _ => 2 - (intOf kv).toNat)
  case atStart => exact ⟨0, by omega, rfl, .inl rfl, HO0.out⟩
  case round =>
    clear HO0
    obtain ⟨k, hk, rfl, hk0, hO⟩ := hrel
    by_cases hlt : k < 2
    · obtain ⟨cs1, hs1⟩ := hO.store
      have hfk : fr + k * sz + sz ≤ d.ss.length := by
        rcases (show k = 0 ∨ k = 1 by omega) with rfl | rfl <;> omega
      have hhe := hear_any B N Nd g m cs1 ⟨fr, sz, (pickL sumH d.ss fr sz k).2, false⟩ d wr hs1.held hs1.ok hs1.disk k (by show fr ≤ _; omega) (by show sz ≤ _; omega) (by show 1 ≤ sz; omega) (by omega) hfk
      simp only at hhe
      have hpick : pickL sumH d.ss fr sz (k + 1) = if (hearL sumH (sz + 1) (halfD d.ss (fr + k * sz) sz) ⟨k, 0, 0, 0⟩ []).1 ≠ [] ∧ ((pickL sumH d.ss fr sz k).1 = [] ∨ (pickL sumH d.ss fr sz k).2.gen < (hearL sumH (sz + 1) (halfD d.ss (fr + k * sz) sz) ⟨k, 0, 0, 0⟩ []).2.gen) then hearL sumH (sz + 1) (halfD d.ss (fr + k * sz) sz) ⟨k, 0, 0, 0⟩ [] else pickL sumH d.ss fr sz k := rfl
      have HP := Lib.hid hpick
      have HO := Lib.hid hO
      have HB3 := hO.lo.size
      clear hs1 hO hpick
      go_wp2_with fail
      refine hhe.mono ?_
      rintro e w3 ⟨hk3, hr⟩
      have hO3 := HO.out.whole hk3
      have HO3 := Lib.hid hO3
      clear hhe hk3 HO
      rcases hr with ⟨hdn, rfl⟩ | ⟨hdn, v2, he, hrow⟩
      · have hlo := hO3.lo.alloc hO3.lo.size (.cells #[.int .i64 0, .int .i64 0, .int .u32 0, .int .u32 0] 92)
        have HL := Lib.hid (And.intro hdn hlo)
        clear hO3 hlo hdn
        simp only [show plV ⟨0, 0, 0, 0⟩ = .agg #[.int .i64 0, .int .i64 0, .int .u32 0, .int .u32 0] from rfl]
        go_wp2_with fail
        go_ret2
        exact ⟨HL.out.2, .inl ⟨HL.out.1, rfl⟩⟩
      · obtain ⟨⟨ts2, ⟨q1, q2, q3, q4⟩⟩, hhh⟩ : ∃ hh, hearL sumH (sz + 1) (halfD d.ss (fr + k * sz) sz) ⟨k, 0, 0, 0⟩ [] = hh := ⟨_, rfl⟩
        rw [hhh] at he hrow HP
        obtain ⟨⟨tsk, pk⟩, hpp⟩ : ∃ pp, pickL sumH d.ss fr sz k = pp := ⟨_, rfl⟩
        rw [hpp] at HP HO3 hO3
        simp only at he hrow HP HO3 hO3
        rw [show plV ⟨q1, q2, q3, q4⟩ = .agg #[.int .i64 (q1 : Int), .int .i64 (q2 : Int), .int .u32 (q3 : Int), .int .u32 (q4 : Int)] from rfl] at he
        subst he
        obtain ⟨ao2, cap2, hv2⟩ := row_slice hrow
        subst hv2
        obtain ⟨aok, capk, hvk⟩ := row_slice hO3.row
        subst hvk
        have hal := (Below.refl w3.heap.size w3).alloc (Nat.le_refl _) (.cells #[.int .i64 (q1 : Int), .int .i64 (q2 : Int), .int .u32 (q3 : Int), .int .u32 (q4 : Int)] 92)
        have hO4 := hO3.below hal
        have hP4 := heap_alloc_new w3 (.cells #[.int .i64 (q1 : Int), .int .i64 (q2 : Int), .int .u32 (q3 : Int), .int .u32 (q4 : Int)] 92)
        have hr4 := ownsRow_below4 (row_more hrow (show w.heap.size ≤ wr.heap.size from HB3)) hal
        obtain ⟨m0, m1, m2, m3, mf⟩ := cells_four9 hP4
        obtain ⟨cs4, hs4⟩ := hO4.store
        have s5 := hs4.held.cell 5
        rw [hs4.ok.c5] at s5
        have HX := Lib.hid (And.intro hO4 (And.intro hP4 (And.intro hr4 hal)))
        clear hhh hpp HO3 hO3 hrow hal hO4 hP4 hr4 hs4
        simp only at s5
        by_cases c1 : ts2 = []
        · have hpk : pickL sumH d.ss fr sz (k + 1) = (tsk, pk) := by rw [HP.out]; exact if_neg (fun e => e.1 c1)
          have Hpk := Lib.hid hpk
          clear hpk HP
          subst c1
          go_wp2_with fail
          generalize w3.alloc (.cells #[.int .i64 (q1 : Int), .int .i64 (q2 : Int), .int .u32 (q3 : Int), .int .u32 (q4 : Int)] 92) = w4 at HX m0 m1 m2 m3 mf s5 ⊢
          generalize w3.heap.size = pb at HX m0 m1 m2 m3 mf ⊢
          go_quiet (fail)
          obtain ⟨hO4, hP4, hr4, hO44⟩ := HX.out
          have hO5 := hO4.below (below_drewN (Below.refl w4.heap.size w4) nq)
          have HO5 := Lib.hid hO5
          clear hO4 hP4 hr4 hO44 hO5 HX
          go_wp2_with fail
          go_roundw
          case rel => exact ⟨k + 1, by omega, by go_num, .inr hdn, by rw [Hpk.out]; exact HO5.out⟩
          case measure => simp [intOf]; omega
        have l2 : 0 < ts2.length := List.length_pos_iff.2 c1
        by_cases c2 : tsk = []
        · have hpk : pickL sumH d.ss fr sz (k + 1) = (ts2, ⟨q1, q2, q3, q4⟩) := by rw [HP.out]; exact if_pos ⟨c1, .inl c2⟩
          have Hpk := Lib.hid hpk
          clear hpk HP
          subst c2
          go_wp2_with fail
          generalize w3.alloc (.cells #[.int .i64 (q1 : Int), .int .i64 (q2 : Int), .int .u32 (q3 : Int), .int .u32 (q4 : Int)] 92) = w4 at HX m0 m1 m2 m3 mf s5 ⊢
          generalize w3.heap.size = pb at HX m0 m1 m2 m3 mf ⊢
          have p1 : decide (0 < (ts2.length : Int)) = true := decide_eq_true (by omega)
          go_quiet (fail)
          obtain ⟨hO4, hP4, hr4, hO44⟩ := HX.out
          have hO5 := hO4.below (below_drewN (Below.refl w4.heap.size w4) nq)
          have hP5 : (w4.drewN nq).heap[pb]? = some (.cells #[.int .i64 (q1 : Int), .int .i64 (q2 : Int), .int .u32 (q3 : Int), .int .u32 (q4 : Int)] 92 (0, 0)) := hP4
          have hr5 := ownsRow_below4 hr4 (below_drewN (Below.refl w4.heap.size w4) nq)
          clear hO4 hP4 hr4 hO44 HX m0 m1 m2 m3 mf s5
          generalize w4.drewN nq = w5 at hO5 hP5 hr5 ⊢
          obtain ⟨m0, m1, m2, m3, mf⟩ := cells_four9 hP5
          obtain ⟨cs5, hs5⟩ := hO5.store
          have e3 := hs5.held.cell 3
          have e4 := hs5.held.cell 4
          have e5 := hs5.held.cell 5
          have e6 := hs5.held.cell 6
          rw [hs5.ok.c3] at e3
          rw [hs5.ok.c4] at e4
          rw [hs5.ok.c5] at e5
          rw [hs5.ok.c6] at e6
          have ef := hs5.held.frozen
          have t9 := (((Turned.set (S := fun x => x = N) (w := w5) (j := 3) (N := N) (v := .int .i64 (q1 : Int)) rfl).trans (Turned.set (S := fun x => x = N) (j := 4) (N := N) (v := .int .i64 (q2 : Int)) rfl) (fun b hb => .inl hb)).trans (Turned.set (S := fun x => x = N) (j := 5) (N := N) (v := .int .u32 (q3 : Int)) rfl) (fun b hb => .inl hb)).trans (Turned.set (S := fun x => x = N) (j := 6) (N := N) (v := .int .u32 (q4 : Int)) rfl) (fun b hb => .inl hb)
          have hO9 := hO5.pick t9 hr5 (((((hs5.held.set 3 (.int .i64 (q1 : Int))).set 4 (.int .i64 (q2 : Int))).set 5 (.int .u32 (q3 : Int))).set 6 (.int .u32 (q4 : Int)))) (hs5.ok.setPl ⟨q1, q2, q3, q4⟩)
          have HO9 := Lib.hid hO9
          clear hO5 hP5 hr5 hs5 t9 hO9
          go_wp2_with fail
          go_region
          go_wp2_with fail
          go_roundw
          case rel => exact ⟨k + 1, by omega, by go_num, .inr hdn, by rw [Hpk.out]; exact HO9.out.below (below_drewN (Below.refl _ _) 1)⟩
          case measure => simp [intOf]; omega
        have lk : 0 < tsk.length := List.length_pos_iff.2 c2
        by_cases c3 : pk.gen < q3
        · have hpk : pickL sumH d.ss fr sz (k + 1) = (ts2, ⟨q1, q2, q3, q4⟩) := by rw [HP.out]; exact if_pos ⟨c1, .inr c3⟩
          have Hpk := Lib.hid hpk
          clear hpk HP
          go_wp2_with fail
          generalize w3.alloc (.cells #[.int .i64 (q1 : Int), .int .i64 (q2 : Int), .int .u32 (q3 : Int), .int .u32 (q4 : Int)] 92) = w4 at HX m0 m1 m2 m3 mf s5 ⊢
          generalize w3.heap.size = pb at HX m0 m1 m2 m3 mf ⊢
          have p1 : decide (0 < (ts2.length : Int)) = true := decide_eq_true (by omega)
          have p2 : ((tsk.length : Int) == 0) = false := by rw [beq_eq_false_iff_ne]; omega
          have p3 : decide ((pk.gen : Int) < (q3 : Int)) = true := decide_eq_true (by omega)
          go_quiet (fail)
          obtain ⟨hO4, hP4, hr4, hO44⟩ := HX.out
          have hO5 := hO4.below (below_drewN (Below.refl w4.heap.size w4) nq)
          have hP5 : (w4.drewN nq).heap[pb]? = some (.cells #[.int .i64 (q1 : Int), .int .i64 (q2 : Int), .int .u32 (q3 : Int), .int .u32 (q4 : Int)] 92 (0, 0)) := hP4
          have hr5 := ownsRow_below4 hr4 (below_drewN (Below.refl w4.heap.size w4) nq)
          clear hO4 hP4 hr4 hO44 HX m0 m1 m2 m3 mf s5
          generalize w4.drewN nq = w5 at hO5 hP5 hr5 ⊢
          obtain ⟨m0, m1, m2, m3, mf⟩ := cells_four9 hP5
          obtain ⟨cs5, hs5⟩ := hO5.store
          have e3 := hs5.held.cell 3
          have e4 := hs5.held.cell 4
          have e5 := hs5.held.cell 5
          have e6 := hs5.held.cell 6
          rw [hs5.ok.c3] at e3
          rw [hs5.ok.c4] at e4
          rw [hs5.ok.c5] at e5
          rw [hs5.ok.c6] at e6
          have ef := hs5.held.frozen
          have t9 := (((Turned.set (S := fun x => x = N) (w := w5) (j := 3) (N := N) (v := .int .i64 (q1 : Int)) rfl).trans (Turned.set (S := fun x => x = N) (j := 4) (N := N) (v := .int .i64 (q2 : Int)) rfl) (fun b hb => .inl hb)).trans (Turned.set (S := fun x => x = N) (j := 5) (N := N) (v := .int .u32 (q3 : Int)) rfl) (fun b hb => .inl hb)).trans (Turned.set (S := fun x => x = N) (j := 6) (N := N) (v := .int .u32 (q4 : Int)) rfl) (fun b hb => .inl hb)
          have hO9 := hO5.pick t9 hr5 (((((hs5.held.set 3 (.int .i64 (q1 : Int))).set 4 (.int .i64 (q2 : Int))).set 5 (.int .u32 (q3 : Int))).set 6 (.int .u32 (q4 : Int)))) (hs5.ok.setPl ⟨q1, q2, q3, q4⟩)
          have HO9 := Lib.hid hO9
          clear hO5 hP5 hr5 hs5 t9 hO9
          go_wp2_with fail
          go_region
          go_wp2_with fail
          go_roundw
          case rel => exact ⟨k + 1, by omega, by go_num, .inr hdn, by rw [Hpk.out]; exact HO9.out.below (below_drewN (Below.refl _ _) 1)⟩
          case measure => simp [intOf]; omega
        · have hpk : pickL sumH d.ss fr sz (k + 1) = (tsk, pk) := by rw [HP.out]; exact if_neg (fun e => e.2.elim c2 c3)
          have Hpk := Lib.hid hpk
          clear hpk HP
          go_wp2_with fail
          generalize w3.alloc (.cells #[.int .i64 (q1 : Int), .int .i64 (q2 : Int), .int .u32 (q3 : Int), .int .u32 (q4 : Int)] 92) = w4 at HX m0 m1 m2 m3 mf s5 ⊢
          generalize w3.heap.size = pb at HX m0 m1 m2 m3 mf ⊢
          have p1 : decide (0 < (ts2.length : Int)) = true := decide_eq_true (by omega)
          have p2 : ((tsk.length : Int) == 0) = false := by rw [beq_eq_false_iff_ne]; omega
          have p3 : decide ((pk.gen : Int) < (q3 : Int)) = false := decide_eq_false (by omega)
          go_quiet (fail)
          obtain ⟨hO4, hP4, hr4, hO44⟩ := HX.out
          have hO5 := hO4.below (below_drewN (Below.refl w4.heap.size w4) nq)
          have HO5 := Lib.hid hO5
          clear hO4 hP4 hr4 hO44 hO5 HX
          go_wp2_with fail
          go_roundw
          case rel => exact ⟨k + 1, by omega, by go_num, .inr hdn, by rw [Hpk.out]; exact HO5.out⟩
          case measure => simp [intOf]; omega
    · obtain rfl : k = 2 := by omega
      rw [show ((2 : Nat) : Int) = 2 from rfl]
      have hdn : d.down = false := hk0.resolve_left (by decide)
      obtain ⟨b1, b2, b3, b4, b5, b6⟩ := pick_ok sumH (fun s hs => h64 s hs) (show fr + 2 * sz ≤ d.ss.length by omega) 2 (Nat.le_refl _)
      obtain ⟨⟨tsk, pk⟩, hpp⟩ : ∃ pp, pickL sumH d.ss fr sz 2 = pp := ⟨_, rfl⟩
      rw [hpp] at hO b1 b2 b3 b4 b5 b6
      simp only at hO b1 b2 b3 b4 b5 b6
      have Hpp := Lib.hid hpp
      clear hpp hk hlt hk0
      obtain ⟨aok, capk, hvk⟩ := row_slice hO.row
      subst hvk
      by_cases c1 : tsk = []
      · subst c1
        have HL := Lib.hid (And.intro hO.lo hdn)
        clear hO
        go_wp2_with fail
        go_ret2
        exact ⟨HL.out.1, .inr (.inl ⟨HL.out.2, .inl (by rw [Hpp.out]), rfl⟩)⟩
      have l2 : 0 < (tsk.length : Int) := by
        have := List.length_pos_iff.2 c1
        omega
      have l3 : ((tsk.length : Int) == 0) = false := by rw [beq_eq_false_iff_ne]; omega
      have HB2 := Lib.hid (And.intro b2 (And.intro c1 (And.intro hdn hO)))
      clear hO hdn b2 c1
      go_wp2_with fail
      go_loopw [71] (fun jv wr => ∃ (j n : Nat) (ps : List PairP), j ≤ tsk.length ∧ jv = .int .i64 j ∧ n ≤ 30000 * j ∧ openT [] tsk = openT ps (tsk.drop j) ∧ OpenAt w B N Nd g m ⟨fr, sz, pk, false⟩ d ps n (.slice aok tsk.length capk) tsk wr) (fun jv _ => tsk.length - (intOf jv).toNat)
      case atStart => exact ⟨0, 0, [], Nat.zero_le _, rfl, Nat.zero_le _, rfl, HB2.out.2.2.2⟩
      case round =>
        obtain ⟨j, n, ps, hj, rfl, hn, hop, hO⟩ := hrel
        by_cases hjl : j < tsk.length
        · obtain ⟨cs8, hs8⟩ := hO.store
          obtain ⟨aok0, hrow⟩ : ∃ x, x = 0 := ⟨0, rfl⟩
          clear hrow aok0
          obtain ⟨tx, htx⟩ : ∃ tx, tsk.getD j [] = tx := ⟨_, rfl⟩
          have htl : tx.length ≤ 140000 := by
            have hmem : tsk.getD j [] ∈ tsk := by
              rw [List.getD_eq_getElem?_getD, List.getElem?_eq_getElem hjl]
              exact List.getElem_mem _
            have := HB2.out.1 _ hmem
            rw [htx] at this
            omega
          have hstep := open_step ps tsk j hjl
          rw [htx] at hstep
          obtain ⟨g0, hg0, hc0⟩ : ∃ g0, aok = some ⟨g0, 0, none⟩ ∧ wr.cell? ⟨g0, j, none⟩ = some (.string (textQ tx)) := by
            rcases hO.row.2 with ⟨e, e2⟩ | ⟨g0, cap0, cur, e, _, hg, _⟩
            · omega
            · cases e
              refine ⟨g0, rfl, ?_⟩
              have := World.ownsRow.cells (g := g0) hO.row rfl j (.string (textQ tx)) (by rw [List.getElem?_map, List.getElem?_eq_getElem hjl]; simp only [Option.map_some]; rw [← htx, List.getD_eq_getElem?_getD, List.getElem?_eq_getElem hjl, Option.getD_some])
              rw [Addr.add_lit, Nat.zero_add] at this
              exact this
          subst hg0
          have c7 := hs8.held.cell 7
          rw [hs8.ok.c7] at c7
          have hpa := parse_any tx (by omega) wr
          have HO := Lib.hid hO
          have HSt := Lib.hid (And.intro hstep hop)
          clear hO hs8 hstep hop htx
          go_wp2_with fail
          refine hpa.mono ?_
          rintro e w3 ⟨v3, code, rfl, hb3, hr⟩
          have hO3 := HO.out.below hb3
          clear hpa HO
          rcases hr with ⟨hno, rfl, rfl⟩ | ⟨l, hyes, rfl, hown⟩
          · have hfin : openT [] tsk = none := by rw [HSt.out.2, HSt.out.1, hno]
            have HF := Lib.hid (And.intro hfin hO3.lo)
            clear hfin hO3 hno hb3
            go_wp2_with fail
            go_ret2
            exact ⟨HF.out.2, .inr (.inl ⟨HB2.out.2.2.1, .inr (by rw [Hpp.out]; exact HF.out.1), rfl⟩)⟩
          · have hlc := parse_count _ _ hyes
            have hfits := parse_fits _ _ hyes
            obtain ⟨cs7, hs7⟩ := hO3.store
            have c7 := hs7.held.cell 7
            rw [hs7.ok.c7] at c7
            have hnb : n ≤ 70000000 := by
              have : 30000 * j ≤ 30000 * 2100 := Nat.mul_le_mul_left _ (by omega)
              omega
            have hch := change_any w3.heap.size m n ps v3 l w3 hs7.map hown.at (Nat.le_refl _) (by omega) (by omega) hfits
            have hnx : openT [] tsk = openT (behindP ps l) (tsk.drop (j + 1)) := by rw [HSt.out.2, HSt.out.1, hyes]
            obtain ⟨ao3, cap3, hv3⟩ := row_slice hown
            subst hv3
            have HX := Lib.hid (And.intro hO3 (And.intro hnx (And.intro hlc hfits)))
            clear hO3 hnx hlc hfits hs7 hown hyes hb3 HSt
            go_wp2_with fail
            refine hch.mono ?_
            rintro e w5 ⟨rfl, hm5, t5⟩
            have hO5 := HX.out.1.changed t5 hm5
            have hlc := HX.out.2.2.1
            have HY := Lib.hid (And.intro hO5 HX.out.2.1)
            clear hm5 t5 hO5 hch HX
            go_wp2_with fail
            go_roundw
            case rel => exact ⟨j + 1, n + l.length, behindP ps l, by omega, by go_num, by omega, HY.out.2, HY.out.1⟩
            case measure => simp [intOf]; omega
        · obtain rfl : j = tsk.length := by omega
          have hfin : openT [] tsk = some ps := by rw [hop, List.drop_length]; rfl
          obtain ⟨cs9, hs9⟩ := hO.store
          have HF := Lib.hid (And.intro hfin (And.intro hs9 (And.intro hO.lo (And.intro hO.bN hO.bm))))
          have HN : Hid (n ≤ 100000000) := Lib.hid (by omega)
          clear hO hs9 hfin hop
          go_wp2_with fail
          go_ret2
          exact ⟨HF.out.2.2.1, .inr (.inr ⟨HB2.out.2.2.1, by rw [Hpp.out]; exact HB2.out.2.1, ps, N, m, n, cs9, by rw [Hpp.out]; exact HF.out.1, rfl, HN.out, by rw [Hpp.out]; exact HF.out.2.1, HF.out.2.2.2.1, HF.out.2.2.2.2⟩)⟩
end Go.Proofs.YtgpdplffljidbaaGreatDoor
