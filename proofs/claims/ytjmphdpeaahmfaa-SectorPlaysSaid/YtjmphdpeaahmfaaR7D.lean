/-
  The document's disk: what its Start, Arm and Read come to, told by the plain disk.
-/
import Derived.Test.YtjmphdpeaahmfaaR7F
import Derived.WalkKit
namespace Go.Proofs.Ytjmphdpeaahmfaa
open Go.RowKit

/-- The number that the document's disk is armed with, and how many bytes its cut leaves. -/
def refA (d : Dk) : Int := if d.ca < 1 then 0 else d.ca
def refT (d : Dk) : Int := if d.ca < 1 then 0 else d.ct
/-- The document's disk as a value; its sectors' texts lie in v. -/
def refV (v : Value) (d : Dk) : Value := .agg #[v, .int .i64 (refA d), .int .i64 (refT d), .int .i64 (d.wr - d.ah), .bool d.down, .int .i64 d.wr]
/-- Its sectors' texts, in a row. -/
def RefAt (w : World) (B : Nat) (v : Value) (d : Dk) : Prop := w.ownsRow B 9 1 v d.ss.length (d.ss.map fun s => Value.string (textD s))
theorem RefAt.below {w w' : World} {B : Nat} {v : Value} {d : Dk} (h : RefAt w B v d) (hb : Below w.heap.size w w') : RefAt w' B v d := ownsRow_below4 h hb
theorem RefAt.slice {w : World} {B : Nat} {v : Value} {d : Dk} (h : RefAt w B v d) (hn : 0 < d.ss.length) : ∃ g cap, v = .slice (some ⟨g, 0, none⟩) d.ss.length cap ∧ B ≤ g ∧ g < w.heap.size ∧ ∀ i (hi : i < d.ss.length), w.cell? ⟨g, i, none⟩ = some (.string (textD d.ss[i])) := by
  have h2 := h.2
  rcases h2 with ⟨_, e⟩ | ⟨g, cap, cur, rfl, hb, hg, _⟩
  · omega
  · refine ⟨g, cap, rfl, hb, (Array.getElem?_eq_some_iff.1 hg).1, fun i hi => ?_⟩
    have := World.ownsRow.cells (g := g) h rfl i (.string (textD d.ss[i])) (by rw [List.getElem?_map, List.getElem?_eq_getElem hi]; rfl)
    rw [Addr.add_lit, Nat.zero_add] at this
    exact this

set_option maxRecDepth 100000 in
set_option maxHeartbeats 2000000 in
theorem dstart_any (d : Dk) (ao : Option Addr) (n cap : Nat) (w : World) :
    Calls Try.prog 18 #[refV (.slice ao n cap) d] w fun e w' => e = .returned (refV (.slice ao n cap) (startD d)) ∧ Below w.heap.size w w' := by
  have hs : refV (.slice ao n cap) (startD d) = .agg #[.slice ao n cap, .int .i64 (refA d), .int .i64 (refT d), .int .i64 0, .bool false, .int .i64 d.wr] := by
    unfold refV startD refA refT
    simp
  rw [hs]
  unfold refV
  generalize refA d = a
  generalize refT d = t
  generalize d.wr - d.ah = si
  go_enter Try.func18, Try.ntmps18
  go_wp2
  exact bodyPost_ret (by simp [results, Try.results18, go_sem]) rfl ⟨rfl, ((Below.refl _ w).alloc (Nat.le_refl _) _).alloc (by simp) _⟩

set_option maxRecDepth 100000 in
set_option maxHeartbeats 2000000 in
theorem darm_any (d : Dk) (ca ct : Int) (ao : Option Addr) (n cap : Nat) (w : World) :
    Calls Try.prog 16 #[refV (.slice ao n cap) d, .agg #[.int .i64 ca, .int .i64 ct]] w fun e w' => e = .returned (refV (.slice ao n cap) (armD d ca ct)) ∧ Below w.heap.size w w' := by
  unfold refV
  rw [show (armD d ca ct).wr - (armD d ca ct).ah = 0 by unfold armD; simp, show (armD d ca ct).wr = d.wr from rfl, show (armD d ca ct).down = d.down from rfl]
  generalize refA d = a
  generalize refT d = t
  generalize d.wr - d.ah = si
  by_cases hc : ca < 1
  · rw [show refA (armD d ca ct) = 0 by unfold refA armD; rw [if_pos hc], show refT (armD d ca ct) = 0 by unfold refT armD; rw [if_pos hc]]
    go_enter Try.func16, Try.ntmps16
    go_wp2
    exact bodyPost_ret (by simp [results, Try.results16, go_sem]) rfl ⟨rfl, (((Below.refl _ w).alloc (Nat.le_refl _) _).alloc (by simp) _).alloc (by simp; omega) _⟩
  · rw [show refA (armD d ca ct) = ca by unfold refA armD; rw [if_neg hc], show refT (armD d ca ct) = ct by unfold refT armD; rw [if_neg hc]]
    go_enter Try.func16, Try.ntmps16
    go_wp2
    exact bodyPost_ret (by simp [results, Try.results16, go_sem]) rfl ⟨rfl, (((Below.refl _ w).alloc (Nat.le_refl _) _).alloc (by simp) _).alloc (by simp; omega) _⟩

set_option maxRecDepth 100000 in
set_option maxHeartbeats 2000000 in
theorem dread_any (B : Nat) (d : Dk) (v : Value) (w : World) (h : RefAt w B v d) (hn : 0 < d.ss.length) (p : Int) :
    Calls Try.prog 14 #[refV v d, .int .i64 p] w fun e w' => e = .returned (.tuple #[.string ⟨(if checkD d p = 0 then d.ss.getD p.toNat [] else []).toArray⟩, .int .i64 (checkD d p)]) ∧ Below w.heap.size w w' := by
  obtain ⟨g, cap, rfl, hB, hg, hc⟩ := h.slice hn
  have hmx : d.ss.length ≤ cap ∧ cap ≤ maxLen := by
    rcases h.2 with ⟨e, _⟩ | ⟨g', cap', cur, e, _, _, h1, h2, _⟩
    · cases e
    · cases e
      exact ⟨h1, h2⟩
  unfold maxLen at hmx
  have hb : Below w.heap.size w (w.alloc (.cells #[.slice (some ⟨g, 0, none⟩) d.ss.length cap, .int .i64 (refA d), .int .i64 (refT d), .int .i64 (d.wr - d.ah), .bool d.down, .int .i64 d.wr] 33)) := (Below.refl _ w).alloc (Nat.le_refl _) _
  unfold refV checkD
  clear h hn
  have Hb := Lib.hid hb
  clear hb
  generalize refA d = a
  generalize refT d = t
  generalize d.wr - d.ah = si
  obtain ⟨dn, hdn⟩ : ∃ dn, d.down = dn := ⟨_, rfl⟩
  rw [hdn]
  cases dn with
  | true =>
    clear hc
    rw [if_pos (show true = true from rfl), if_neg (show ¬ ((6 : Int) = 0) by decide)]
    change Calls _ _ _ _ fun e w' => e = .returned (.tuple #[.string ⟨#[]⟩, .int .i64 6]) ∧ _
    go_enter Try.func14, Try.ntmps14
    go_wp2
    go_ret2
    exact ⟨rfl, (Below.refl _ w).alloc (Nat.le_refl _) _⟩
  | false =>
    by_cases hp0 : p < 0
    · rw [if_neg (show ¬ (false = true) by simp), if_pos (Or.inl hp0)]
      clear hc
      go_enter Try.func14, Try.ntmps14
      go_wp2
      go_ret2
      exact ⟨rfl, (Below.refl _ w).alloc (Nat.le_refl _) _⟩
    · by_cases hp1 : (d.ss.length : Int) ≤ p
      · rw [if_neg (show ¬ (false = true) by simp), if_pos (Or.inr hp1)]
        clear hc
        go_enter Try.func14, Try.ntmps14
        go_wp2
        go_ret2
        exact ⟨rfl, (Below.refl _ w).alloc (Nat.le_refl _) _⟩
      · obtain ⟨i, rfl⟩ : ∃ i : Nat, p = i := ⟨p.toNat, by omega⟩
        have hi : i < d.ss.length := by omega
        have hci := hc i hi
        rw [if_neg (show ¬ (false = true) by simp), if_neg (show ¬ ((i : Int) < 0 ∨ (d.ss.length : Int) ≤ i) by omega), if_pos rfl, Int.toNat_natCast, List.getD_eq_getElem?_getD, List.getElem?_eq_getElem hi, Option.getD_some]
        change Calls _ _ _ _ fun e w' => e = .returned (.tuple #[.string (textD d.ss[i]), .int .i64 0]) ∧ _
        obtain ⟨X, hX⟩ : ∃ X, textD d.ss[i] = X := ⟨_, rfl⟩
        rw [hX] at hci ⊢
        obtain ⟨n, hn⟩ : ∃ n, d.ss.length = n := ⟨_, rfl⟩
        rw [hn] at hp1 ⊢
        clear hc hX hi hn hmx
        go_enter Try.func14, Try.ntmps14
        go_wp2
        go_ret2
        exact ⟨rfl, (Below.refl _ w).alloc (Nat.le_refl _) _⟩
end Go.Proofs.Ytjmphdpeaahmfaa
