/-
  Texts of this proof, put together: HdG.
-/
import Derived.Test.YtjikghndoklajaaGreatDoorZ14
import Derived.Test.YtjikghndoklajaaGreatDoorZ15
import Derived.Test.YtjikghndoklajaaGreatDoorZ13
namespace Go.Proofs.YtjikghndoklajaaGreatDoor
open Go.RowKit

theorem starts_iff (s : TextH) : startsH s ↔ Lib.hasPrefix s [13, 10] = true := by
  unfold Lib.hasPrefix startsH
  rw [List.isPrefixOf_iff_prefix]
  constructor
  · rintro ⟨t, rfl⟩
    exact ⟨t, rfl⟩
  · rintro ⟨t, rfl⟩
    exact ⟨t, rfl⟩
def cutVH (_s : TextH) : Option (TextH × TextH) → Value
  | none => .tuple #[.string ⟨#[]⟩, .string ⟨#[]⟩, .bool false]
  | some x => .tuple #[.string (textQ x.1), .string (textQ x.2), .bool true]
def cutP (s : TextH) : Option (TextH × TextH) :=
  if Lib.hasPrefix s [13, 10] = true then some ([], s.drop 2) else if Lib.index s fourH = -1 then none else some (s.take ((Lib.index s fourH).toNat + 2), s.drop ((Lib.index s fourH).toNat + 4))

set_option maxRecDepth 100000 in
set_option maxHeartbeats 2000000 in
theorem hcut_any (s : ByteArray) (m : Int) (w : World) (hs : s.size ≤ 10000000) (hm : w.cell? ⟨0, 0, none⟩ = some (.int .i64 m)) :
    Calls Tryz.prog 35 #[.string s] w fun e w' => e = .returned (cutVH s.data.toList (cutP s.data.toList)) ∧ Below w.heap.size w w' := by
  have hl : s.data.toList.length = s.size := rfl
  have hpre := Tryz.strings_CutPrefix s ⟨#[13, 10]⟩ w
  rw [show (⟨#[13, 10]⟩ : ByteArray).data.toList = [13, 10] from rfl] at hpre
  have hix := Tryz.strings_Index s ⟨#[13, 10, 13, 10]⟩ m w (by omega) hm
  rw [show (⟨#[13, 10, 13, 10]⟩ : ByteArray).data.toList = fourH from rfl] at hix
  unfold cutP
  unfold Lib.trimPrefix at hpre
  cases hp : Lib.hasPrefix s.data.toList [13, 10] with
  | true =>
    rw [hp, if_pos rfl] at hpre
    rw [if_pos rfl]
    clear hix hp
    go_enter Tryz.func35, Tryz.ntmps35
    go_wp2_with (go_at_call 59; refine hpre.mono ?_; rintro e w1 ⟨rfl, h9⟩; obtain rfl := h9.symm)
    go_ret3
    exact ⟨rfl, Below.refl _ _⟩
  | false =>
    rw [hp, if_neg (by simp)] at hpre
    rw [if_neg (by simp)]
    have hge := Lib.index_ge s.data.toList fourH
    by_cases h1 : Lib.index s.data.toList fourH = -1
    · rw [h1] at hix
      rw [if_pos h1]
      clear h1 hp
      go_enter Tryz.func35, Tryz.ntmps35
      go_wp2_with (first | (go_at_call 59; refine hpre.mono ?_; rintro e w1 ⟨rfl, h9⟩; obtain rfl := h9.symm) | (go_at_call 60; refine hix.mono ?_; rintro e w2 ⟨rfl, h9⟩))
      go_ret3
      exact ⟨rfl, Below.refl _ _⟩
    · obtain ⟨k, hk⟩ := Int.eq_ofNat_of_zero_le (show 0 ≤ Lib.index s.data.toList fourH by omega)
      have hle : k + 4 ≤ s.size := by
        have hns : ¬ startsH s.data.toList := fun h => by
          rw [starts_iff, hp] at h
          cases h
        rcases top_cut (s.data.toList.length + 1) s.data.toList (by omega) hns with ⟨h2, _⟩ | ⟨i, _, h2, h3, _⟩
        · exact absurd h2 h1
        · rw [hk] at h2
          omega
      rw [hk] at hix
      rw [if_neg h1, hk]
      have e1 : s.extract 0 (k + 2) = textQ (s.data.toList.take (k + 2)) := by rw [cut_text]; simp
      have e2 : s.extract (k + 4) s.size = textQ (s.data.toList.drop (k + 4)) := by
        rw [cut_text]
        congr 1
        rw [List.take_of_length_le (by rw [List.length_drop, hl]; exact Nat.le_refl _)]
      have w2 : IntKind.i64.wrap ((k : Int) + 2) = (k : Int) + 2 := by rw [IntWalk.i64_in _ (by omega)]
      have w4 : IntKind.i64.wrap ((k : Int) + 4) = (k : Int) + 4 := by rw [IntWalk.i64_in _ (by omega)]
      have c2 : (k : Int) + 2 ≤ (s.size : Int) := by omega
      have c4 : (k : Int) + 4 ≤ (s.size : Int) := by omega
      have E1 := Lib.hid e1
      have E2 := Lib.hid e2
      clear h1 hp hk e1 e2 hge hl
      go_enter Tryz.func35, Tryz.ntmps35
      go_wp2_with (first | (go_at_call 59; refine hpre.mono ?_; rintro e w1 ⟨rfl, h9⟩; obtain rfl := h9.symm) | (go_at_call 60; refine hix.mono ?_; rintro e w2 ⟨rfl, h9⟩; obtain rfl := h9.symm; go_wp2_with fail; go_quiet (fail)))
      go_ret3
      exact ⟨by rw [E1.out, E2.out]; rfl, below_drewN (Below.refl _ _) _⟩

theorem first_byte (s : ByteArray) (h : 0 < s.size) : s.data.toList = s[0] :: s.data.toList.drop 1 := by
  have := List.drop_eq_getElem_cons (l := s.data.toList) (i := 0) h
  rw [List.drop_zero] at this
  exact this
theorem goes_first (s : ByteArray) (h : 0 < s.size) : goesH s.data.toList = blankH s[0] := by
  rw [first_byte s h]
  rfl
theorem extract_one (s : ByteArray) (h : 0 < s.size) : s.extract 0 1 = ⟨#[s[0]]⟩ := by
  rw [cut_text]
  rw [List.drop_zero, first_byte s h]
  rfl
set_option maxRecDepth 100000 in
set_option maxHeartbeats 2000000 in
theorem hgoes_any (s : ByteArray) (w : World) : Calls Tryz.prog 96 #[.string s] w fun e w' => e = .returned (.bool (goesH s.data.toList)) ∧ w' = w := by
  by_cases h0 : s.size = 0
  · have he : s.data.toList = [] := List.eq_nil_of_length_eq_zero h0
    have hem : s.toList.isEmpty = true := by rw [Lib.toList_data, he]; rfl
    rw [he]
    clear he h0
    go_enter Tryz.func96, Tryz.ntmps96
    go_wp2
    go_ret
    exact ⟨rfl, rfl⟩
  · have hpos : 0 < s.size := by omega
    have hem : s.toList.isEmpty = false := by
      rw [Lib.toList_data, List.isEmpty_eq_false_iff]
      exact fun e => h0 (by rw [← bytes_len, e]; rfl)
    have hc := Tryz.strings_Contains_one ⟨#[32, 9]⟩ s[0] w
    rw [show (⟨#[32, 9]⟩ : ByteArray).data.toList = [32, 9] from rfl, ← Lib.contains_iff_indexByte, blank_in, ← goes_first s hpos, ← extract_one s hpos] at hc
    have h1 : (1 : Int) ≤ (s.size : Int) := by omega
    clear h0
    go_enter Tryz.func96, Tryz.ntmps96
    go_wp2_with (go_at_call 91; refine hc.mono ?_; rintro e w1 ⟨rfl, h9⟩; obtain rfl := h9.symm)
    go_ret
    exact ⟨rfl, rfl⟩

set_option maxRecDepth 100000 in
set_option maxHeartbeats 2000000 in
theorem htog_any (B : Nat) (A : Option Addr) (n c : Nat) (ls : List TextH) (w : World) (h : Strs w B A n c (textsF ls)) (hB : B ≤ w.heap.size) (hn : 1 ≤ n) (hn2 : n ≤ 10000000) :
    Calls Tryz.prog 62 #[.slice A n c] w fun e w' => e = .returned (.int .i64 (togH ls : Nat)) ∧ w' = w := by
  have hlen : ls.length = n := by rw [← h.len, texts_len]
  obtain ⟨b, off, rfl, hb, hcl⟩ := h.at_ hn
  have hbz : b < w.heap.size := by omega
  have Hcl := Lib.hid hcl
  have Hlen := Lib.hid hlen
  clear hcl hlen h
  go_enter Tryz.func62, Tryz.ntmps62
  go_wp2
  go_loop [3] (fun iv => ∃ k : Nat, 1 ≤ k ∧ k ≤ n ∧ iv = .int .i64 k ∧ Hid (∀ j (h : j < ls.length), 1 ≤ j → j < k → goesH ls[j] = true)) (fun iv => n - (intOf iv).toNat)
  case atStart => exact ⟨1, by omega, hn, rfl, Lib.hid (fun j _ h1 h2 => by omega)⟩
  case round =>
    obtain ⟨k, hk1, hk2, rfl, hall⟩ := hrel
    by_cases hlt : k < n
    · have hil : k < ls.length := by rw [Hlen.out]; exact hlt
      have hc := Hcl.out k hlt
      rw [texts_get ls k hil] at hc
      have hg := fun W => hgoes_any (textQ ls[k]) W
      rw [show (textQ ls[k]).data.toList = ls[k] from rfl] at hg
      have hyes : Hid (goesH ls[k] = true → ∀ j (h : j < ls.length), 1 ≤ j → j < k + 1 → goesH ls[j] = true) := Lib.hid fun h j h1 h2 h3 => by
        rcases Nat.lt_or_ge j k with h4 | h4
        · exact hall.out j h1 h2 h4
        · obtain rfl : j = k := by omega
          exact h
      have hno : Hid (goesH ls[k] = false → togH ls = k) := Lib.hid fun h => tog_iff ls k hk1 (by omega) hall.out (fun _ => h)
      obtain ⟨X, hX⟩ : ∃ X, textQ ls[k] = X := ⟨_, rfl⟩
      rw [hX] at hc
      simp only [hX] at hg
      clear hX hall
      cases hq : goesH ls[k] with
      | true =>
        rw [hq] at hg
        have Hr := Lib.hid (hyes.out hq)
        clear hyes hno hq hil
        go_wp2_with (go_at_call 96; refine (hg _).mono ?_; rintro e w1 ⟨rfl, h9⟩; obtain rfl := h9.symm)
        exact ⟨⟨k + 1, by omega, by omega, by go_num, Hr⟩, by simp [intOf]; omega⟩
      | false =>
        rw [hq] at hg
        have Hr := Lib.hid (hno.out hq)
        clear hyes hno hq hil
        go_wp2_with (go_at_call 96; refine (hg _).mono ?_; rintro e w1 ⟨rfl, h9⟩; obtain rfl := h9.symm)
        go_ret
        exact ⟨by rw [Hr.out]; rfl, rfl⟩
    · obtain rfl : k = n := by omega
      have Hr := Lib.hid (tog_iff ls k hk1 (by rw [Hlen.out]; exact Nat.le_refl _) hall.out (fun h => by rw [Hlen.out] at h; omega))
      clear hall
      go_wp2
      go_ret
      exact ⟨by rw [Hr.out]; rfl, rfl⟩
theorem index58 : ∀ w : TextH, ((58 : UInt8) ∉ w → Lib.index w [58] = -1) ∧ ((58 : UInt8) ∈ w → Lib.index w [58] = ((w.takeWhile (· != 58)).length : Int))
  | [] => ⟨fun _ => rfl, fun h => by cases h⟩
  | c :: r => by
    obtain ⟨i1, i2⟩ := index58 r
    have hp : List.isPrefixOf [58] (c :: r) = (58 == c) := by simp [List.isPrefixOf]
    rw [index_cons, hp]
    constructor
    · intro h
      have hc : c ≠ 58 := fun e => h (by rw [e]; exact List.mem_cons_self ..)
      rw [if_neg (by rw [beq_iff_eq]; exact fun e => hc e.symm), i1 (fun h2 => h (List.mem_cons_of_mem _ h2)), if_pos rfl]
    · intro h
      by_cases hc : c = 58
      · rw [hc]
        rfl
      · have hr : (58 : UInt8) ∈ r := by
          rcases List.mem_cons.1 h with h | h
          · exact absurd h.symm hc
          · exact h
        rw [if_neg (by rw [beq_iff_eq]; exact fun e => hc e.symm), i2 hr, if_neg (by omega), List.takeWhile_cons, show (c != 58) = true from bne_iff_ne.2 hc, if_pos rfl, List.length_cons]
        push_cast
        rfl
theorem cut58 (w : TextH) : Lib.cut w [58] = if (58 : UInt8) ∈ w then (w.takeWhile (· != 58), (w.dropWhile (· != 58)).drop 1, true) else (w, [], false) := by
  obtain ⟨i1, i2⟩ := index58 w
  unfold Lib.cut
  by_cases h : (58 : UInt8) ∈ w
  · rw [if_pos h, i2 h, if_pos (by omega)]
    have e := List.takeWhile_append_dropWhile (p := (· != (58 : UInt8))) (l := w)
    congr 1
    · show w.take (w.takeWhile (· != 58)).length = _
      conv => lhs; arg 2; rw [← e]
      rw [List.take_left]
    · congr 1
      show w.drop ((w.takeWhile (· != 58)).length + 1) = _
      conv => lhs; arg 2; rw [← e]
      rw [List.drop_length_add_append]
  · rw [if_neg h, i1 h, if_neg (by decide)]
def rdP (w : TextH) : Option FieldH := match fieldH w with
  | none => none
  | some f => if rightB f = true then some f else none
def rdV : Option FieldH → Value
  | none => .tuple #[.agg #[.string ⟨#[]⟩, .string ⟨#[]⟩], .bool false]
  | some f => .tuple #[fieldV f, .bool true]

set_option maxRecDepth 100000 in
set_option maxHeartbeats 4000000 in
theorem hrdf_any (s : ByteArray) (m : Int) (w : World) (hs : s.size ≤ 10000000) (hm : w.cell? ⟨0, 0, none⟩ = some (.int .i64 m)) :
    Calls Tryz.prog 63 #[.string s] w fun e w' => e = .returned (rdV (rdP s.data.toList)) ∧ Below w.heap.size w w' := by
  have hb0 : Below w.heap.size w (w.alloc (.cells #[.string ⟨#[]⟩, .string ⟨#[]⟩] 38)) := (Below.refl _ _).alloc (Nat.le_refl _) _
  have hm1 := bound_abide hm hb0
  have hcut := Tryz.strings_Cut s ⟨#[58]⟩ m (w.alloc (.cells #[.string ⟨#[]⟩, .string ⟨#[]⟩] 38)) (by omega) hm1
  rw [show (⟨#[58]⟩ : ByteArray).data.toList = [58] from rfl, cut58] at hcut
  have hl : s.data.toList.length = s.size := rfl
  unfold rdP fieldH
  by_cases h58 : (58 : UInt8) ∈ s.data.toList
  · rw [if_pos h58] at hcut ⊢
    obtain ⟨f, hf⟩ : ∃ f : FieldH, ((s.data.toList.takeWhile (· != 58)), trimH ((s.data.toList.dropWhile (· != 58)).drop 1)) = f := ⟨_, rfl⟩
    obtain ⟨X, hX⟩ : ∃ X, textQ (s.data.toList.takeWhile (· != 58)) = X := ⟨_, rfl⟩
    obtain ⟨Y, hY⟩ : ∃ Y, textQ ((s.data.toList.dropWhile (· != 58)).drop 1) = Y := ⟨_, rfl⟩
    have hYs : Y.size ≤ 10000000 := by
      rw [← hY]
      show ((s.data.toList.dropWhile (· != 58)).drop 1).length ≤ _
      have h1 := (List.dropWhile_sublist (· != (58 : UInt8)) (l := s.data.toList)).length_le
      rw [List.length_drop]
      omega
    have htr := fun W => trim_any Y W (by omega)
    rw [show Y.data.toList = (s.data.toList.dropWhile (· != 58)).drop 1 by rw [← hY]; rfl] at htr
    have hr := fun W => hright_any f W (by
      rw [← hf]
      have := trim_len ((s.data.toList.dropWhile (· != 58)).drop 1)
      have h3 : Y.size = ((s.data.toList.dropWhile (· != 58)).drop 1).length := by rw [← hY]; rfl
      show (trimH ((s.data.toList.dropWhile (· != 58)).drop 1)).length ≤ _
      omega)
    obtain ⟨Z, hZ⟩ : ∃ Z, textQ (trimH ((s.data.toList.dropWhile (· != 58)).drop 1)) = Z := ⟨_, rfl⟩
    have hfv : fieldV f = .agg #[.string X, .string Z] := by rw [← hf, ← hX, ← hZ]; rfl
    rw [hfv] at hr
    rw [hf]
    show Calls _ _ _ _ fun e w' => e = .returned (rdV (if rightB f = true then some f else none)) ∧ _
    have hcut2 : Calls Tryz.prog 61 #[.string s, .string ⟨#[58]⟩] (w.alloc (.cells #[.string ⟨#[]⟩, .string ⟨#[]⟩] 38)) fun e w' => e = .returned (.tuple #[.string X, .string Y, .bool true]) ∧ Below (w.alloc (.cells #[.string ⟨#[]⟩, .string ⟨#[]⟩] 38)).heap.size (w.alloc (.cells #[.string ⟨#[]⟩, .string ⟨#[]⟩] 38)) w' := by
      refine hcut.mono ?_
      rintro e w' ⟨he, n, rfl⟩
      exact ⟨by rw [he, ← hX, ← hY]; rfl, below_drewN (Below.refl _ _) n⟩
    simp only [hZ] at htr
    clear hcut hX hY hZ hf h58
    cases hq : rightB f with
    | true =>
      rw [hq] at hr
      rw [if_pos rfl]
      show Calls _ _ _ _ fun e w' => e = .returned (.tuple #[fieldV f, .bool true]) ∧ _
      rw [hfv]
      clear hq hfv
      go_enter Tryz.func63, Tryz.ntmps63
      go_wp2_with (first | (go_at_call 61; refine hcut2.mono ?_; rintro e w1 ⟨rfl, hw1⟩) | (go_at_call 97; refine (htr _).mono ?_; rintro e w2 ⟨rfl, hw2⟩; have s1 := hw1.size; have s2 := hw2.size; have lt2 : w.heap.size < w2.heap.size := (by simp at s1; omega); have hR2 : w2.heap[w.heap.size]? = some (.cells #[.string ⟨#[]⟩, .string ⟨#[]⟩] 38 (0, 0)) := (hw2.block _ (by simp at s1; omega)).trans ((hw1.block _ (by simp)).trans (heap_alloc_new w _)); have r0 := Lib.cell_of_heap hR2 0; have r1 := Lib.cell_of_heap hR2 1; have g0 := Lib.frozen_of_heap hR2 0; have g1 := Lib.frozen_of_heap hR2 1) | (go_at_call 52; refine (hr _).mono ?_; rintro e w3 ⟨rfl, hw3⟩; have s3 := hw3.size; have lt3 : w.heap.size < w3.heap.size := (by simp at s3; omega); have hF3 : w3.heap[w2.heap.size]? = some (.cells #[.string X, .string Z] 38 (0, 0)) := (hw3.block _ (by simp)).trans (heap_alloc_new w2 _); have hR3 : w3.heap[w.heap.size]? = some (.cells #[.string ⟨#[]⟩, .string ⟨#[]⟩] 38 (0, 0)) := (hw3.block _ (by simp; omega)).trans ((Below.heap_alloc _ _ _ lt2).trans hR2); have r2 := Lib.cell_of_heap hR3 0; have r3 := Lib.cell_of_heap hR3 1; have g2 := Lib.frozen_of_heap hR3 0; have g3 := Lib.frozen_of_heap hR3 1; have x0 := Lib.cell_of_heap hF3 0; have x1 := Lib.cell_of_heap hF3 1))
      have q0 : ((w3.setCell ⟨w.heap.size, 0, none⟩ (.string X)).setCell ⟨w.heap.size, 1, none⟩ (.string Z)).cell? ⟨w.heap.size, 0, none⟩ = some (.string X) := by
        rw [World.cell?_setCell_other _ _ _ _ (by intro e; injection e with _ e _; cases e)]
        exact World.cell?_setCell_same' _ _ _ (by rw [r2]; rfl)
      have q1 : ((w3.setCell ⟨w.heap.size, 0, none⟩ (.string X)).setCell ⟨w.heap.size, 1, none⟩ (.string Z)).cell? ⟨w.heap.size, 1, none⟩ = some (.string Z) :=
        World.cell?_setCell_same' _ _ _ (by rw [World.cell?_setCell_other _ _ _ _ (by intro e; injection e with _ e _; cases e), r3]; rfl)
      have l2 : Below w.heap.size w w2 := (hb0.trans (hw1.mono (by simp))).trans (hw2.mono (by simp at s1; omega))
      have l3 : Below w.heap.size w w3 := (l2.alloc (by omega) _).trans (hw3.mono (by simp; omega))
      refine bodyPost_ret (v := .tuple #[.agg #[.string X, .string Z], .bool true]) (by simp [results, Tryz.f63, go_sem, q0, q1]) rfl ⟨rfl, ?_⟩
      exact (l3.setCell (p := ⟨w.heap.size, 0, none⟩) (Nat.le_refl _) _).setCell (p := ⟨w.heap.size, 1, none⟩) (Nat.le_refl _) _
    | false =>
      rw [hq] at hr
      rw [if_neg (by simp)]
      clear hq hfv
      go_enter Tryz.func63, Tryz.ntmps63
      go_wp2_with (first | (go_at_call 61; refine hcut2.mono ?_; rintro e w1 ⟨rfl, hw1⟩) | (go_at_call 97; refine (htr _).mono ?_; rintro e w2 ⟨rfl, hw2⟩; have s1 := hw1.size; have s2 := hw2.size; have lt2 : w.heap.size < w2.heap.size := (by simp at s1; omega); have hR2 : w2.heap[w.heap.size]? = some (.cells #[.string ⟨#[]⟩, .string ⟨#[]⟩] 38 (0, 0)) := (hw2.block _ (by simp at s1; omega)).trans ((hw1.block _ (by simp)).trans (heap_alloc_new w _)); have r0 := Lib.cell_of_heap hR2 0; have r1 := Lib.cell_of_heap hR2 1; have g0 := Lib.frozen_of_heap hR2 0; have g1 := Lib.frozen_of_heap hR2 1) | (go_at_call 52; refine (hr _).mono ?_; rintro e w3 ⟨rfl, hw3⟩; have s3 := hw3.size; have lt3 : w.heap.size < w3.heap.size := (by simp at s3; omega); have hF3 : w3.heap[w2.heap.size]? = some (.cells #[.string X, .string Z] 38 (0, 0)) := (hw3.block _ (by simp)).trans (heap_alloc_new w2 _); have hR3 : w3.heap[w.heap.size]? = some (.cells #[.string ⟨#[]⟩, .string ⟨#[]⟩] 38 (0, 0)) := (hw3.block _ (by simp; omega)).trans ((Below.heap_alloc _ _ _ lt2).trans hR2); have r2 := Lib.cell_of_heap hR3 0; have r3 := Lib.cell_of_heap hR3 1; have g2 := Lib.frozen_of_heap hR3 0; have g3 := Lib.frozen_of_heap hR3 1; have x0 := Lib.cell_of_heap hF3 0; have x1 := Lib.cell_of_heap hF3 1))
      have q0 : ((w3.setCell ⟨w.heap.size, 0, none⟩ (.string ⟨#[]⟩)).setCell ⟨w.heap.size, 1, none⟩ (.string ⟨#[]⟩)).cell? ⟨w.heap.size, 0, none⟩ = some (.string ⟨#[]⟩) := by
        rw [World.cell?_setCell_other _ _ _ _ (by intro e; injection e with _ e _; cases e)]
        exact World.cell?_setCell_same' _ _ _ (by rw [r2]; rfl)
      have q1 : ((w3.setCell ⟨w.heap.size, 0, none⟩ (.string ⟨#[]⟩)).setCell ⟨w.heap.size, 1, none⟩ (.string ⟨#[]⟩)).cell? ⟨w.heap.size, 1, none⟩ = some (.string ⟨#[]⟩) :=
        World.cell?_setCell_same' _ _ _ (by rw [World.cell?_setCell_other _ _ _ _ (by intro e; injection e with _ e _; cases e), r3]; rfl)
      have l2 : Below w.heap.size w w2 := (hb0.trans (hw1.mono (by simp))).trans (hw2.mono (by simp at s1; omega))
      have l3 : Below w.heap.size w w3 := (l2.alloc (by omega) _).trans (hw3.mono (by simp; omega))
      refine bodyPost_ret (v := .tuple #[.agg #[.string ⟨#[]⟩, .string ⟨#[]⟩], .bool false]) (by simp [results, Tryz.f63, go_sem, q0, q1]) rfl ⟨rfl, ?_⟩
      exact (l3.setCell (p := ⟨w.heap.size, 0, none⟩) (Nat.le_refl _) _).setCell (p := ⟨w.heap.size, 1, none⟩) (Nat.le_refl _) _
  · rw [if_neg h58] at hcut ⊢
    have htr := fun W => trim_any ⟨#[]⟩ W (by show 0 ≤ _; omega)
    rw [show textQ (trimH (⟨#[]⟩ : ByteArray).data.toList) = ⟨#[]⟩ from rfl] at htr
    have hcut2 : Calls Tryz.prog 61 #[.string s, .string ⟨#[58]⟩] (w.alloc (.cells #[.string ⟨#[]⟩, .string ⟨#[]⟩] 38)) fun e w' => e = .returned (.tuple #[.string s, .string ⟨#[]⟩, .bool false]) ∧ Below (w.alloc (.cells #[.string ⟨#[]⟩, .string ⟨#[]⟩] 38)).heap.size (w.alloc (.cells #[.string ⟨#[]⟩, .string ⟨#[]⟩] 38)) w' := by
      refine hcut.mono ?_
      rintro e w' ⟨he, n, rfl⟩
      exact ⟨he, below_drewN (Below.refl _ _) n⟩
    clear hcut h58
    go_enter Tryz.func63, Tryz.ntmps63
    go_wp2_with (first | (go_at_call 61; refine hcut2.mono ?_; rintro e w1 ⟨rfl, hw1⟩) | (go_at_call 97; refine (htr _).mono ?_; rintro e w2 ⟨rfl, hw2⟩; have s1 := hw1.size; have s2 := hw2.size; have lt2 : w.heap.size < w2.heap.size := (by simp at s1; omega); have hR2 : w2.heap[w.heap.size]? = some (.cells #[.string ⟨#[]⟩, .string ⟨#[]⟩] 38 (0, 0)) := (hw2.block _ (by simp at s1; omega)).trans ((hw1.block _ (by simp)).trans (heap_alloc_new w _)); have r0 := Lib.cell_of_heap hR2 0; have r1 := Lib.cell_of_heap hR2 1; have g0 := Lib.frozen_of_heap hR2 0; have g1 := Lib.frozen_of_heap hR2 1))
    have l2 : Below w.heap.size w w2 := (hb0.trans (hw1.mono (by simp))).trans (hw2.mono (by simp at s1; omega))
    obtain ⟨wf, hwf⟩ : ∃ wf, (w2.setCell ⟨w.heap.size, 0, none⟩ (.string ⟨#[]⟩)).setCell ⟨w.heap.size, 1, none⟩ (.string ⟨#[]⟩) = wf := ⟨_, rfl⟩
    have q0 : wf.cell? ⟨w.heap.size, 0, none⟩ = some (.string ⟨#[]⟩) := by
      rw [← hwf, World.cell?_setCell_other _ _ _ _ (by intro e; injection e with _ e _; cases e)]
      exact World.cell?_setCell_same' _ _ _ (by rw [r0]; rfl)
    have q1 : wf.cell? ⟨w.heap.size, 1, none⟩ = some (.string ⟨#[]⟩) := by
      rw [← hwf]
      exact World.cell?_setCell_same' _ _ _ (by rw [World.cell?_setCell_other _ _ _ _ (by intro e; injection e with _ e _; cases e), r1]; rfl)
    have l4 : Below w.heap.size w wf := by
      rw [← hwf]
      exact (l2.setCell (p := ⟨w.heap.size, 0, none⟩) (Nat.le_refl _) _).setCell (p := ⟨w.heap.size, 1, none⟩) (Nat.le_refl _) _
    have ltf : w.heap.size < wf.heap.size := by
      rw [← hwf]
      simpa [World.setCell] using lt2
    rw [hwf]
    have q2 : (wf.alloc (.cells #[.string s, .string ⟨#[]⟩] 38)).cell? ⟨w.heap.size, 0, none⟩ = some (.string ⟨#[]⟩) := (((Below.refl wf.heap.size wf).alloc (Nat.le_refl _) _).cell (p := ⟨w.heap.size, 0, none⟩) ltf).trans q0
    have q3 : (wf.alloc (.cells #[.string s, .string ⟨#[]⟩] 38)).cell? ⟨w.heap.size, 1, none⟩ = some (.string ⟨#[]⟩) := (((Below.refl wf.heap.size wf).alloc (Nat.le_refl _) _).cell (p := ⟨w.heap.size, 1, none⟩) ltf).trans q1
    refine bodyPost_ret (v := .tuple #[.agg #[.string ⟨#[]⟩, .string ⟨#[]⟩], .bool false]) (by simp [results, Tryz.f63, go_sem, q2, q3]) rfl ⟨rfl, ?_⟩
    exact l4.alloc (by omega) _
end Go.Proofs.YtjikghndoklajaaGreatDoor
