/-
  What marking's functions come to, for any two lists of strings, any label and any text: told by plain functions. Condition: a text that is read is shorter than 4294967281 bytes.
-/
import Derived.Test.YtkjiaklpffnhlaaDoorMarkF
import Derived.Test.YtkjiaklpffnhlaaDoorParseL
import Derived.RegionCalls
import Derived.Deep.RegionWith
namespace Go.Proofs.YtkjiaklpffnhlaaDoor
open Go.RowKit

theorem bytes_app (x y : List UInt8) : (⟨x.toArray⟩ : ByteArray) ++ ⟨y.toArray⟩ = ⟨(x ++ y).toArray⟩ := by
  apply ByteArray.ext
  simp
theorem bytes_of (s : ByteArray) : (⟨s.data.toList.toArray⟩ : ByteArray) = s := by
  cases s with
  | mk d => simp
def markS : ByteArray := ⟨#[77, 65, 82, 75, 58, 32]⟩

set_option maxHeartbeats 2000000 in
set_option maxRecDepth 100000 in
theorem line_any (B n c n' c' : Nat) (A A' : Option Addr) (ss ss' : List ByteArray) (l k : Int) (w : World) (hB : B ≤ w.heap.size) (h1 : Strs w B A n c ss) (h2 : Strs w B A' n' c' ss') (hsz : ∀ s ∈ ss ++ ss', s.size ≤ maxLen) :
    Calls Tryd.prog 27 #[.agg #[.slice A n c, .slice A' n' c'], .agg #[.int .i64 l, .int .u64 k]] w fun e w' => e = .returned (.tuple #[.string ⟨(lineB ss ss' l k).1.toArray⟩, .int .i64 (lineB ss ss' l k).2]) ∧ Below w.heap.size w w' := by
  have hb0 : Below w.heap.size w ((w.alloc (.cells #[.slice A n c, .slice A' n' c'] 24)).alloc (.cells #[.int .i64 l, .int .u64 k] 27)) := ((Below.refl _ _).alloc (Nat.le_refl _) _).alloc (by simp) _
  have hp : (∃ t, printB ss ss' l k = (t, 0) ∧ t.length ≤ 1168 ∧ lineB ss ss' l k = (markW ++ t, 0)) ∨ ∃ z : Int, (z = 8 ∨ z = 2) ∧ printB ss ss' l k = ([], z) ∧ lineB ss ss' l k = ([], z) := by
    unfold lineB
    rcases print_cases ss ss' l k with ⟨hp, hr, _⟩ | ⟨hp, _⟩ | ⟨hp, _⟩
    · exact .inl ⟨_, hp, text_short hr l k, by rw [hp, if_pos rfl]⟩
    · exact .inr ⟨8, .inl rfl, hp, by rw [hp, if_neg (by decide)]⟩
    · exact .inr ⟨2, .inr rfl, hp, by rw [hp, if_neg (by decide)]⟩
  rcases hp with ⟨t, hp, ht, hl⟩ | ⟨z, hz, hp, hl⟩
  · have hst : (⟨t.toArray⟩ : ByteArray).size ≤ 1168 := ht
    have happ : (⟨#[77, 65, 82, 75, 58, 32]⟩ : ByteArray) ++ ⟨t.toArray⟩ = ⟨(lineB ss ss' l k).1.toArray⟩ := by rw [hl]; exact bytes_app markW t
    have hl2 : (lineB ss ss' l k).2 = 0 := by rw [hl]
    have Hp := Lib.hid hp
    have Happ := Lib.hid happ
    have Hl := Lib.hid hl2
    clear hp happ hl2 hl
    go_enter Tryd.func27, Tryd.ntmps27
    go_wp2_with fail
    refine (print_any B n c n' c' A A' ss ss' l k _ (by simp; omega) ((h1.alloc hB _).alloc (by simp; omega) _) ((h2.alloc hB _).alloc (by simp; omega) _) hsz).mono ?_
    rintro e w1 ⟨rfl, hb1⟩
    rw [Hp.out]
    go_wp2
    go_ret2
    exact ⟨by rw [Hl.out, ← Happ.out]; rfl, hb0.trans (hb1.mono (by simp; omega))⟩
  · have Hp := Lib.hid hp
    have Hl := Lib.hid hl
    clear hp hl
    rcases hz with rfl | rfl
    all_goals
      go_enter Tryd.func27, Tryd.ntmps27
      go_wp2_with fail
      refine (print_any B n c n' c' A A' ss ss' l k _ (by simp; omega) ((h1.alloc hB _).alloc (by simp; omega) _) ((h2.alloc hB _).alloc (by simp; omega) _) hsz).mono ?_
      rintro e w1 ⟨rfl, hb1⟩
      rw [Hp.out]
      go_wp2
      go_ret2
      exact ⟨by rw [Hl.out]; rfl, hb0.trans (hb1.mono (by simp; omega))⟩

set_option maxHeartbeats 2000000 in
set_option maxRecDepth 100000 in
theorem mark_any (B n c n' c' : Nat) (A A' : Option Addr) (ss ss' : List ByteArray) (l k : Int) (t : ByteArray) (w : World) (hB : B ≤ w.heap.size) (h1 : Strs w B A n c ss) (h2 : Strs w B A' n' c' ss') (hsz : ∀ s ∈ ss ++ ss', s.size ≤ maxLen) (ht : t.size < 4294967281) :
    Calls Tryd.prog 31 #[.agg #[.slice A n c, .slice A' n' c'], .agg #[.int .i64 l, .int .u64 k], .string t] w fun e w' => e = .returned (.tuple #[.string ⟨(markB ss ss' l k t.data.toList).1.toArray⟩, .int .i64 (markB ss ss' l k t.data.toList).2]) ∧ Below w.heap.size w w' := by
  have hb0 : Below w.heap.size w ((w.alloc (.cells #[.slice A n c, .slice A' n' c'] 24)).alloc (.cells #[.int .i64 l, .int .u64 k] 27)) := ((Below.refl _ _).alloc (Nat.le_refl _) _).alloc (by simp) _
  have hp : (∃ x, lineB ss ss' l k = (x, 0) ∧ x.length ≤ 1174 ∧ markB ss ss' l k t.data.toList = (x ++ ([13, 10] ++ t.data.toList), 0)) ∨ ∃ z : Int, (z = 8 ∨ z = 2) ∧ lineB ss ss' l k = ([], z) ∧ markB ss ss' l k t.data.toList = ([], z) := by
    unfold markB
    rcases print_cases ss ss' l k with ⟨hp, hr, hh⟩ | ⟨hp, _⟩ | ⟨hp, _⟩
    · have hl := line_yes hr hh
      refine .inl ⟨_, hl, ?_, by rw [hl, if_pos rfl]⟩
      have := text_short hr l k
      rw [List.length_append]
      have : markW.length = 6 := rfl
      omega
    · have hl : lineB ss ss' l k = ([], 8) := by unfold lineB; rw [hp, if_neg (by decide)]
      exact .inr ⟨8, .inl rfl, hl, by rw [hl, if_neg (by decide)]⟩
    · have hl : lineB ss ss' l k = ([], 2) := by unfold lineB; rw [hp, if_neg (by decide)]
      exact .inr ⟨2, .inr rfl, hl, by rw [hl, if_neg (by decide)]⟩
  rcases hp with ⟨x, hp, hx, hl⟩ | ⟨z, hz, hp, hl⟩
  · have hst : (⟨x.toArray⟩ : ByteArray).size ≤ 1174 := hx
    have happ : (⟨x.toArray⟩ : ByteArray) ++ ⟨#[13, 10]⟩ ++ t = ⟨(markB ss ss' l k t.data.toList).1.toArray⟩ := by
      rw [hl]
      conv => lhs; rw [← bytes_of t]
      rw [show (⟨#[13, 10]⟩ : ByteArray) = ⟨([13, 10] : List UInt8).toArray⟩ from rfl, bytes_app, bytes_app, List.append_assoc]
    have hl2 : (markB ss ss' l k t.data.toList).2 = 0 := by rw [hl]
    have Hp := Lib.hid hp
    have Happ := Lib.hid happ
    have Hl := Lib.hid hl2
    clear hp happ hl2 hl
    go_enter Tryd.func31, Tryd.ntmps31
    go_wp2_with fail
    refine (line_any B n c n' c' A A' ss ss' l k _ (by simp; omega) ((h1.alloc hB _).alloc (by simp; omega) _) ((h2.alloc hB _).alloc (by simp; omega) _) hsz).mono ?_
    rintro e w1 ⟨rfl, hb1⟩
    rw [Hp.out]
    go_wp2
    go_ret2
    exact ⟨by rw [Hl.out, ← Happ.out]; rfl, hb0.trans (hb1.mono (by simp; omega))⟩
  · have Hp := Lib.hid hp
    have Hl := Lib.hid hl
    clear hp hl
    rcases hz with rfl | rfl
    all_goals
      go_enter Tryd.func31, Tryd.ntmps31
      go_wp2_with fail
      refine (line_any B n c n' c' A A' ss ss' l k _ (by simp; omega) ((h1.alloc hB _).alloc (by simp; omega) _) ((h2.alloc hB _).alloc (by simp; omega) _) hsz).mono ?_
      rintro e w1 ⟨rfl, hb1⟩
      rw [Hp.out]
      go_wp2
      go_ret2
      exact ⟨by rw [Hl.out]; rfl, hb0.trans (hb1.mono (by simp; omega))⟩

set_option maxRecDepth 100000 in
theorem firstLine_any (s : ByteArray) (w : World) : Calls Tryd.prog 48 #[.string s] w fun e w' => e = .returned (.func (.func 61) #[] #[.pointer (some ⟨w.heap.size, 0, none⟩)]) ∧ w' = w.alloc (.cells #[.string s] 9) := by
  have hmf : ∀ (fn : Fn) (first cap : Array Value) (w : World), (Instr.makeFunc fn first cap).run Tryd.prog w = .ok (.func fn first cap) w := fun _ _ _ _ => rfl
  go_enter Tryd.func48, Tryd.ntmps48
  go_wp2
  go_ret
  exact ⟨rfl, rfl⟩

set_option maxRecDepth 100000 in
set_option maxHeartbeats 1000000 in
theorem firstLine1_any (b : Nat) (s : ByteArray) (m : Int) (w : World) (hs : s.size < 4294967281) (hm : w.cell? ⟨0, 0, none⟩ = some (.int .i64 m)) (hc : w.cell? ⟨b, 0, none⟩ = some (.string s)) :
    Calls Tryd.prog 61 #[.pointer (some ⟨b, 0, none⟩)] w fun e w' => e = .returned (.tuple #[.string ⟨(Lib.cut s.data.toList [13, 10]).1.toArray⟩, .string ⟨(Lib.cut s.data.toList [13, 10]).2.1.toArray⟩]) ∧ ∃ nq, w' = w.drewN nq := by
  have hcut := Tryd.strings_Cut s ⟨#[13, 10]⟩ m w hs hm
  have hsep : (⟨#[13, 10]⟩ : ByteArray).data.toList = [13, 10] := rfl
  rw [hsep] at hcut
  clear hsep
  go_enter Tryd.func61, Tryd.ntmps61
  go_wp2_with fail
  refine hcut.mono ?_
  rintro e w1 ⟨rfl, nq, rfl⟩
  go_wp2
  go_ret2
  exact ⟨rfl, nq, rfl⟩

/-- What reading hands back. -/
def readV (r : (Nat × Int) × List UInt8 × Int) : Value := .tuple #[.agg #[.int .i64 r.1.1, .int .u64 r.1.2], .string ⟨r.2.1.toArray⟩, .int .i64 r.2.2]

set_option maxRecDepth 100000 in
set_option maxHeartbeats 2000000 in
theorem readWith_any (B n c n' c' p : Nat) (A A' : Option Addr) (ss ss' : List ByteArray) (s : ByteArray) (m : Int) (w : World) (hB : B ≤ w.heap.size) (h1 : Strs w B A n c ss) (h2 : Strs w B A' n' c' ss') (hsz : ∀ s ∈ ss ++ ss', s.size ≤ maxLen) (hr : rightB ss ss' = true)
    (hs : s.size < 4294967281) (hm : w.cell? ⟨0, 0, none⟩ = some (.int .i64 m)) (hc : w.cell? ⟨p, 0, none⟩ = some (.string s)) :
    Calls Tryd.prog 47 #[.agg #[.slice A n c, .slice A' n' c'], .func (.func 61) #[] #[.pointer (some ⟨p, 0, none⟩)]] w fun e w' => e = .returned (readV (readF ss ss' s.data.toList)) ∧ Below w.heap.size w w' := by
  have h0 := lt_of_cell hm
  have hp0 := lt_of_cell hc
  simp at h0 hp0
  have eg : ∀ args w, (callFunc 61 args).run Tryd.prog w = .ok (.enter 61 args) w := enters_of Tryd.func61 (by kernel_rfl) rfl
  obtain ⟨cu, hcu⟩ : ∃ cu, Lib.cut s.data.toList [13, 10] = cu := ⟨_, rfl⟩
  have hln := cut_len s.data.toList [13, 10]
  have hfl := fun w hm hc => firstLine1_any p s m w hs hm hc
  have hrf : readF ss ss' s.data.toList = (if Lib.hasPrefix cu.1 markW = true then (match parseB ss ss' (Lib.trimPrefix cu.1 markW) with | none => ((0, 0), [], 11) | some q => (q, cu.2.1, 0)) else ((0, 0), [], 11) : (Nat × Int) × List UInt8 × Int) := by unfold readF parseB; rw [hcu, if_pos hr]; cases parseF (idxF ss) (idxF ss') (Lib.trimPrefix cu.1 markW) <;> rfl
  simp only [hcu] at hfl hln
  obtain ⟨line, rest, more⟩ := cu
  simp only at hfl hln hrf
  have hsl : s.data.toList.length = s.size := rfl
  have hcp : ∀ w, Calls Tryd.prog 60 #[.string ⟨line.toArray⟩, .string ⟨#[77, 65, 82, 75, 58, 32]⟩] w fun e w' => e = .returned (.tuple #[.string ⟨(Lib.trimPrefix line markW).toArray⟩, .bool (Lib.hasPrefix line markW)]) ∧ w' = w := fun w => by
    have := Tryd.strings_CutPrefix ⟨line.toArray⟩ ⟨#[77, 65, 82, 75, 58, 32]⟩ w
    simpa [markW] using this
  have hb0 : ∀ nq, Below w.heap.size w (((w.alloc (.cells #[.slice A n c, .slice A' n' c'] 24)).alloc (.cells #[.int .i64 0, .int .u64 0] 27)).drewN nq) := fun nq => below_drewN (((Below.refl _ _).alloc (Nat.le_refl _) _).alloc (by simp) _) nq
  have htl : (Lib.trimPrefix line markW).length ≤ line.length := by unfold Lib.trimPrefix; split <;> simp
  have Hcu := Lib.hid hcu
  clear hcu hr
  cases hpx : Lib.hasPrefix line markW with
  | false =>
    have hfin : readV (readF ss ss' s.data.toList) = .tuple #[.agg #[.int .i64 0, .int .u64 0], .string ⟨#[]⟩, .int .i64 11] := by rw [hrf, hpx]; rfl
    rw [hfin]
    have Hpx := Lib.hid hpx
    clear hrf hfin hpx hln hsl htl
    go_enter Tryd.func47, Tryd.ntmps47
    go_wp2_with fail
    refine (hfl _ (by go_simp) (by go_simp)).mono ?_
    rintro e w1 ⟨rfl, nq, rfl⟩
    go_wp2_with fail
    refine (hcp _).mono ?_
    rintro e w2 ⟨rfl, rfl⟩
    rw [Hpx.out]
    go_wp2
    exact bodyPost_ret (by simp [results, Tryd.results47, go_sem]) rfl ⟨rfl, ((hb0 nq).setCell (p := ⟨w.heap.size + 1, 0, none⟩) (by simp) _).setCell (p := ⟨w.heap.size + 1, 1, none⟩) (by simp) _⟩
  | true =>
    rw [hpx, if_pos rfl] at hrf
    have Hpx := Lib.hid hpx
    clear hpx
    generalize Lib.trimPrefix line markW = tx at hrf hcp htl
    have htx : (⟨tx.toArray⟩ : ByteArray).size < 4294967281 := by
      show tx.length < _
      omega
    have Hs1 : Hid (∀ nq, Strs (((w.alloc (.cells #[.slice A n c, .slice A' n' c'] 24)).alloc (.cells #[.int .i64 0, .int .u64 0] 27)).drewN nq) B A n c ss) := Lib.hid fun nq => h1.below ((hb0 nq).mono hB)
    have Hs2 : Hid (∀ nq, Strs (((w.alloc (.cells #[.slice A n c, .slice A' n' c'] 24)).alloc (.cells #[.int .i64 0, .int .u64 0] 27)).drewN nq) B A' n' c' ss') := Lib.hid fun nq => h2.below ((hb0 nq).mono hB)
    have Hm : Hid (∀ nq, (((w.alloc (.cells #[.slice A n c, .slice A' n' c'] 24)).alloc (.cells #[.int .i64 0, .int .u64 0] 27)).drewN nq).cell? ⟨0, 0, none⟩ = some (.int .i64 m)) := Lib.hid fun nq => ((hb0 nq).cell (p := ⟨0, 0, none⟩) h0).trans hm
    clear h1 h2 hln hsl htl
    cases hpf : parseB ss ss' tx with
    | none =>
      rw [hpf] at hrf
      have hfin : readV (readF ss ss' s.data.toList) = .tuple #[.agg #[.int .i64 0, .int .u64 0], .string ⟨#[]⟩, .int .i64 11] := by rw [hrf]; rfl
      rw [hfin]
      have Hpf := Lib.hid hpf
      clear hrf hfin hpf
      go_enter Tryd.func47, Tryd.ntmps47
      go_wp2_with fail
      refine (hfl _ (by go_simp) (by go_simp)).mono ?_
      rintro e w1 ⟨rfl, nq, rfl⟩
      go_wp2_with fail
      refine (hcp _).mono ?_
      rintro e w2 ⟨rfl, rfl⟩
      rw [Hpx.out]
      go_wp2_with fail
      refine (parse_any B n c n' c' A A' ss ss' ⟨tx.toArray⟩ m _ (by simp; omega) (Hs1.out nq) (Hs2.out nq) hsz htx (Hm.out nq)).mono ?_
      rintro e w3 ⟨rfl, hb3⟩
      rw [show (⟨tx.toArray⟩ : ByteArray).data.toList = tx by simp, Hpf.out]
      simp only [parseV]
      have k0 : w3.cell? ⟨w.heap.size + 1, 0, none⟩ = some (.int .i64 0) := by rw [hb3.cell (by simp)]; go_simp
      have k1 : w3.cell? ⟨w.heap.size + 1, 1, none⟩ = some (.int .u64 0) := by rw [hb3.cell (by simp)]; go_simp
      have q0 : w3.frozen? ⟨w.heap.size + 1, 0, none⟩ = false := by rw [hb3.frozen (by simp)]; go_simp
      have q1 : w3.frozen? ⟨w.heap.size + 1, 1, none⟩ = false := by rw [hb3.frozen (by simp)]; go_simp
      have hbw := (hb0 nq).trans (hb3.mono (by simp; omega))
      have hz3 : w.heap.size + 1 < w3.heap.size := by have := hb3.size; simp at this; omega
      clear hb3
      go_wp2
      exact bodyPost_ret (by simp [results, Tryd.results47, go_sem, k0, k1, hz3]) rfl ⟨rfl, ((hbw.setCell (p := ⟨w.heap.size + 1, 0, none⟩) (by simp) _).setCell (p := ⟨w.heap.size + 1, 1, none⟩) (by simp) _).alloc (by simp; omega) _⟩
    | some q =>
      obtain ⟨L, k⟩ := q
      rw [hpf] at hrf
      have hfin : readV (readF ss ss' s.data.toList) = .tuple #[.agg #[.int .i64 L, .int .u64 k], .string ⟨rest.toArray⟩, .int .i64 0] := by rw [hrf]; rfl
      rw [hfin]
      have Hpf := Lib.hid hpf
      clear hrf hfin hpf
      go_enter Tryd.func47, Tryd.ntmps47
      go_wp2_with fail
      refine (hfl _ (by go_simp) (by go_simp)).mono ?_
      rintro e w1 ⟨rfl, nq, rfl⟩
      go_wp2_with fail
      refine (hcp _).mono ?_
      rintro e w2 ⟨rfl, rfl⟩
      rw [Hpx.out]
      go_wp2_with fail
      refine (parse_any B n c n' c' A A' ss ss' ⟨tx.toArray⟩ m _ (by simp; omega) (Hs1.out nq) (Hs2.out nq) hsz htx (Hm.out nq)).mono ?_
      rintro e w3 ⟨rfl, hb3⟩
      rw [show (⟨tx.toArray⟩ : ByteArray).data.toList = tx by simp, Hpf.out]
      simp only [parseV]
      have k0 : w3.cell? ⟨w.heap.size + 1, 0, none⟩ = some (.int .i64 0) := by rw [hb3.cell (by simp)]; go_simp
      have k1 : w3.cell? ⟨w.heap.size + 1, 1, none⟩ = some (.int .u64 0) := by rw [hb3.cell (by simp)]; go_simp
      have q0 : w3.frozen? ⟨w.heap.size + 1, 0, none⟩ = false := by rw [hb3.frozen (by simp)]; go_simp
      have q1 : w3.frozen? ⟨w.heap.size + 1, 1, none⟩ = false := by rw [hb3.frozen (by simp)]; go_simp
      have hbw := (hb0 nq).trans (hb3.mono (by simp; omega))
      have hz3 : w.heap.size + 1 < w3.heap.size := by have := hb3.size; simp at this; omega
      clear hb3
      go_wp2
      exact bodyPost_ret (by simp [results, Tryd.results47, go_sem, k0, k1, hz3]) rfl ⟨rfl, ((hbw.setCell (p := ⟨w.heap.size + 1, 0, none⟩) (by simp) _).setCell (p := ⟨w.heap.size + 1, 1, none⟩) (by simp) _).alloc (by simp; omega) _⟩
end Go.Proofs.YtkjiaklpffnhlaaDoor
