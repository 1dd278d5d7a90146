/-
  header.Right, of any field at all: strings.IndexAny and strings.Trim of texts as long as memory takes.
-/
import Derived.Test.YtneihcdeflfahaaDoorHdB
namespace Go.Proofs.YtneihcdeflfahaaDoor
open Go.RowKit Go.Shelf

set_option maxHeartbeats 8000000 in
set_option maxRecDepth 1000000 in
/-- The road over a set of bytes: a text of more than eight bytes, as long as memory takes. -/
theorem iany_big {P : Program} {ρ : Ren} (L : Lays.n153 P ρ) (hz : (P.info? (ρ.t 116)).map (fun i => (i.zero, i.size)) = some (some (.agg (Array.replicate 256 (.bool false))), 256)) (s c : ByteArray) (w : World) (hc2 : 2 ≤ c.size) (hc3 : c.size ≤ 1000) (hl : ∀ b ∈ c.data.toList, b.toNat < 128) (hs : 8 < s.size) (hs2 : s.size ≤ 9223372036854775807) :
    Calls P (ρ.f 153) #[.string s, .string c] w fun e w' => e = .returned (.int .i64 (Lib.indexAny s.data.toList c.data.toList)) ∧ Below w.heap.size w w' := by
  obtain ⟨zv, zn⟩ := zero_of_info hz
  have hset := Any.strings_makeASCIISet { L with } zv zn c w (by omega) (fun j b hb => hl b (List.mem_of_getElem? hb))
  have hwhich := fun W => Any.strings_shouldUseASCIISet (P := P) (ρ := ρ) { L with } (s.size : Int) W
  rw [decide_eq_true (show (8 : Int) < (s.size : Int) by omega)] at hwhich
  obtain ⟨wb, hwb⟩ : ∃ W, (w.alloc (.cells (Lib.setCells c.data.toList) (ρ.t 116))).alloc (.cells (Lib.setCells c.data.toList) (ρ.t 116)) = W := ⟨_, rfl⟩
  have bb : Below w.heap.size w wb := by rw [← hwb]; exact ((Below.refl _ _).alloc (Nat.le_refl _) _).alloc (by simp) _
  have hst : (storeCells ⟨w.heap.size + 1, 0, none⟩ (Lib.setCells c.data.toList).toList 0).run P ((w.alloc (.cells (Lib.setCells c.data.toList) (ρ.t 116))).alloc (.cells (Array.replicate 256 (.bool false)) (ρ.t 116))) = .ok () wb := by
    have h := run_storeCells_new (P := P) (w.alloc (.cells (Lib.setCells c.data.toList) (ρ.t 116))) (ρ.t 116) (Array.replicate 256 (.bool false)) (Lib.setCells c.data.toList) (by rw [Lib.setCells_size]; exact zn) (by rw [Lib.setCells_size, Array.size_replicate]) (Lib.setCells_one _)
    rw [hwb] at h
    simpa using h
  have hat : Hid (∀ x : UInt8, wb.cell? ⟨w.heap.size + 1, x.toNat, none⟩ = some (.bool (c.data.toList.contains x))) := Lib.hid fun x => by
    rw [← hwb, World.cell?_alloc_at _ _ _ _ (by simp), Lib.setCells_at]
  have hn1 : ((c.size : Int) == 1) = false := beq_eq_false_iff_ne.2 (by omega)
  have hne : c.toList.isEmpty = false := by
    rw [Lib.toList_data]
    cases h : c.data.toList with
    | nil => have := Lib.size_eq c; rw [h, List.length_nil] at this; omega
    | cons _ _ => rfl
  have hsz := Lib.setCells_size c.data.toList
  have Hwb := Lib.hid hwb
  clear hl hz hwb
  have t3 := L.t3; have a3 := L.a3; have z3 := L.z3; have v3 := L.v3
  have t4 := L.t4; have a4 := L.a4; have z4 := L.z4; have v4 := L.v4
  have t5 := L.t5; have a5 := L.a5; have z5 := L.z5; have v5 := L.v5
  have t9 := L.t9; have a9 := L.a9; have z9 := L.z9; have v9 := L.v9
  have t21 := L.t21; have a21 := L.a21; have z21 := L.z21; have v21 := L.v21
  have t116 := L.t116
  have e226 : ∀ args w, (callFunc (ρ.f 226) args).run P w = .ok (.enter (ρ.f 226) args) w := enters_of L.f226 (by kernel_rfl) rfl
  have e227 : ∀ args w, (callFunc (ρ.f 227) args).run P w = .ok (.enter (ρ.f 227) args) w := enters_of L.f227 (by kernel_rfl) rfl
  have e228 : ∀ args w, (callFunc (ρ.f 228) args).run P w = .ok (.enter (ρ.f 228) args) w := enters_of L.f228 (by kernel_rfl) rfl
  go_enter L.f153, Body.n153_ntmps ρ
  go_wp2_with (first | (go_at_fn (ρ.f 226); refine (hwhich _).mono ?_; rintro e w' ⟨rfl, hw⟩; rw [hw]) | (go_at_fn (ρ.f 227); refine hset.mono ?_; rintro e w' ⟨rfl, hw⟩; rw [hw]))
  simp only [L.z116, Result.andThen, ↓reduceIte, hst]
  rw [Oper.upon_skip]
  clear hset hst hwhich
  go_wp2
  go_loop [8] (fun iv => ∃ i : Nat, i ≤ s.size ∧ iv = .int .i64 i ∧ Hid (Lib.NoAny s.data.toList c.data.toList i)) (fun iv => s.size - (intOf iv).toNat)
  case atStart => exact ⟨0, by omega, rfl, Lib.hid (Lib.NoAny.zero _ _)⟩
  case round =>
    obtain ⟨i, hi, rfl, hno⟩ := hrel
    by_cases hlt : i < s.size
    · obtain ⟨x, hx⟩ : ∃ x : UInt8, s[i]'hlt = x := ⟨_, rfl⟩
      have hxl : s.data.toList[i]? = some x := by rw [← hx]; exact Lib.data_getElem? s i hlt
      have hcx := hat.out x
      have hwr : IntKind.i64.wrap ((i : Int) + 1) = (i : Int) + 1 := by rw [IntWalk.i64_in _ (by omega)]
      cases hin : c.data.toList.contains x with
      | false =>
        rw [hin] at hcx
        have hn := Lib.hid (hno.out.succ hxl hin)
        clear hxl hno hin
        go_wp2_with (go_at_fn (ρ.f 228); refine (Any.asciiSet_contains { L with } _ x _ _ hcx).mono ?_; rintro e w' ⟨rfl, hw⟩; rw [hw])
        exact ⟨⟨i + 1, by omega, by go_num, hn⟩, by simp [intOf]; omega⟩
      | true =>
        rw [hin] at hcx
        have hr := Lib.hid (Lib.indexAny_hit hno.out hxl hin)
        clear hxl hno hin
        go_wp2_with (go_at_fn (ρ.f 228); refine (Any.asciiSet_contains { L with } _ x _ _ hcx).mono ?_; rintro e w' ⟨rfl, hw⟩; rw [hw])
        go_ret
        exact ⟨by rw [hr.out]; rfl, bb⟩
    · obtain rfl : i = s.size := by omega
      have hr := Lib.hid (Lib.indexAny_none (by rw [← Lib.size_eq]; exact hno.out))
      clear hno
      go_wp2
      go_ret
      exact ⟨by rw [hr.out]; rfl, bb⟩

set_option maxRecDepth 100000 in
theorem cany_wide (s : ByteArray) (w : World) (hs : s.size ≤ maxLen) :
    Calls Tryd.prog 45 #[.string s, .string threeH] w fun e w' => e = .returned (.bool (Lib.containsAny s.data.toList [0, 13, 10])) ∧ Below w.heap.size w w' := by
  have c : Calls Tryd.prog 55 #[.string s, .string threeH] w fun e w' => e = .returned (.int .i64 (Lib.indexAny s.data.toList threeH.data.toList)) ∧ Below w.heap.size w w' := by
    by_cases h8 : 8 < s.size
    · exact iany_big Tryd.lays153 (by kernel_rfl) s threeH w (by decide) (by decide) (by decide) h8 (by unfold maxLen at hs; omega)
    · exact iany_any s threeH w (by decide) (by decide) (by omega) (by decide)
  rw [show threeH.data.toList = [0, 13, 10] from rfl] at c
  go_enter Tryd.func45, Tryd.ntmps45
  go_wp2_with (go_at_call 55; refine c.mono ?_; rintro e w' ⟨rfl, hw⟩)
  go_ret
  exact ⟨rfl, hw⟩
theorem trim_wide (s : ByteArray) (w : World) (hs : s.size ≤ maxLen) : Calls Tryd.prog 46 #[.string s, .string ⟨#[32, 9]⟩] w fun e w' => e = .returned (.string (textQ (trimH s.data.toList))) ∧ Below w.heap.size w w' := by
  refine (Any.strings_Trim_laid Tryd.lays160 (by kernel_rfl) s ⟨#[32, 9]⟩ w (by unfold maxLen at hs; omega) (by decide) (ascii_of_all (by decide))).mono ?_
  rintro e w' ⟨he, hb⟩
  refine ⟨?_, hb⟩
  rw [he, show (⟨#[32, 9]⟩ : ByteArray).data.toList = [32, 9] from rfl, trimS_H]
  rfl

set_option maxRecDepth 100000 in
set_option maxHeartbeats 2000000 in
theorem hbody_wide (s : ByteArray) (w : World) (hs : s.size ≤ maxLen) : Calls Tryd.prog 32 #[.string s] w fun e w' => e = .returned (.bool (bodyB s.data.toList)) ∧ Below w.heap.size w w' := by
  have hc := cany_wide s w hs
  have ht := fun W => trim_wide s W hs
  have hb : bodyB s.data.toList = (!(Lib.containsAny s.data.toList [0, 13, 10]) && (trimH s.data.toList == s.data.toList)) := by
    rw [cany_not, trim_same, Bool.not_not]
    rfl
  rw [hb]
  cases h : Lib.containsAny s.data.toList [0, 13, 10] with
  | true =>
    rw [h] at hc
    clear hb h ht
    go_enter Tryd.func32, Tryd.ntmps32
    go_wp2_with fail
    refine hc.mono ?_
    rintro e w1 ⟨rfl, hw⟩
    go_wp2
    go_ret
    exact ⟨rfl, hw⟩
  | false =>
    rw [h] at hc
    obtain ⟨X, hX⟩ : ∃ X, textQ (trimH s.data.toList) = X := ⟨_, rfl⟩
    have he : (X.toList == s.toList) = (trimH s.data.toList == s.data.toList) := by
      rw [← hX, Lib.toList_data, Lib.toList_data]
      rfl
    simp only [hX] at ht
    rw [← he]
    clear hb h hX he
    go_enter Tryd.func32, Tryd.ntmps32
    go_wp2_with (first | (go_at_call 45; refine hc.mono ?_; rintro e w1 ⟨rfl, hw⟩) | (go_at_call 46; refine (ht _).mono ?_; rintro e w2 ⟨rfl, hw2⟩))
    go_ret
    exact ⟨rfl, hw.trans (hw2.mono hw.size)⟩

set_option maxRecDepth 100000 in
set_option maxHeartbeats 2000000 in
theorem hright_wide (f : FieldH) (w : World) (hs : f.2.length ≤ maxLen) : Calls Tryd.prog 17 #[fieldV f] w fun e w' => e = .returned (.bool (rightB f)) ∧ Below w.heap.size w w' := by
  rw [right_two]
  obtain ⟨X, hX⟩ : ∃ X, textQ f.1 = X := ⟨_, rfl⟩
  obtain ⟨Y, hY⟩ : ∃ Y, textQ f.2 = Y := ⟨_, rfl⟩
  have h1 := fun W => hname_any X W
  have h2 := fun W => hbody_wide Y W (by rw [← hY]; exact hs)
  rw [show X.data.toList = f.1 by rw [← hX]; rfl] at h1
  rw [show Y.data.toList = f.2 by rw [← hY]; rfl] at h2
  unfold fieldV
  rw [hX, hY]
  clear hX hY hs
  cases hn : nameB f.1 with
  | true =>
    rw [hn] at h1
    go_enter Tryd.func17, Tryd.ntmps17
    go_wp2_with (first | (go_at_call 31; refine (h1 _).mono ?_; rintro e w1 ⟨rfl, h9⟩; obtain rfl := h9.symm) | (go_at_call 32; refine (h2 _).mono ?_; rintro e w2 ⟨rfl, hw2⟩))
    go_ret
    exact ⟨rfl, ((Below.refl _ w).alloc (Nat.le_refl _) _).trans (hw2.mono (by simp))⟩
  | false =>
    rw [hn] at h1
    go_enter Tryd.func17, Tryd.ntmps17
    go_wp2_with (first | (go_at_call 31; refine (h1 _).mono ?_; rintro e w1 ⟨rfl, h9⟩; obtain rfl := h9.symm) | (go_at_call 32; refine (h2 _).mono ?_; rintro e w2 ⟨rfl, hw2⟩))
    go_ret
    exact ⟨rfl, (Below.refl _ w).alloc (Nat.le_refl _) _⟩
end Go.Proofs.YtneihcdeflfahaaDoor
