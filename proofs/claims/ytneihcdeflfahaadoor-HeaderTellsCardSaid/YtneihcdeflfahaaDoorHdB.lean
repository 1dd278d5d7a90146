/-
  What strings.Trim comes to at blanks and tabs; header.rightBody, Right, Get: told by the plain functions.
-/
import Derived.Test.YtneihcdeflfahaaDoorHdU
import Derived.Test.YtneihcdeflfahaaDoorGlue
import Derived.Test.YtneihcdeflfahaaDoorConv
import Derived.Test.YtneihcdeflfahaaDoorTurn
import Derived.Test.YtneihcdeflfahaaDoorStrL
import Derived.Laws.AppendOwn
namespace Go.Proofs.YtneihcdeflfahaaDoor
open Go.RowKit

def trimR (l : TextH) : TextH := (l.reverse.dropWhile blankH).reverse
theorem trimR_cons (c : UInt8) (l : TextH) : trimR (c :: l) = if trimR l = [] ∧ blankH c = true then [] else c :: trimR l := by
  unfold trimR
  rw [List.reverse_cons, List.dropWhile_append]
  cases h : l.reverse.dropWhile blankH with
  | nil =>
    cases hc : blankH c <;> simp [List.dropWhile, hc]
  | cons d r => simp
theorem trim_two : ∀ l : TextH, (trimR l).dropWhile blankH = trimR (l.dropWhile blankH)
  | [] => rfl
  | c :: l => by
    have ih := trim_two l
    rw [trimR_cons, List.dropWhile_cons]
    cases hc : blankH c with
    | true =>
      by_cases h0 : trimR l = []
      · rw [if_pos ⟨h0, rfl⟩, if_pos rfl, ← ih, h0]
      · rw [if_neg (fun h => h0 h.1), if_pos rfl, List.dropWhile_cons, hc, if_pos rfl, ih]
    | false =>
      rw [if_neg (by simp), if_neg (by simp), List.dropWhile_cons, hc, if_neg (by simp), trimR_cons, hc, if_neg (by simp)]
theorem blank_in (c : UInt8) : [32, 9].contains c = blankH c := by
  unfold blankH
  rw [Bool.eq_iff_iff, List.contains_iff_mem, Bool.or_eq_true, beq_iff_eq, beq_iff_eq]
  simp
theorem trimS_H (l : TextH) : Lib.trimS l [32, 9] = trimH l := by
  unfold Lib.trimS Lib.trimLeftS Lib.trimRightS
  rw [show (fun x => [32, 9].contains x) = blankH from funext blank_in]
  exact trim_two l
theorem trim_any (s : ByteArray) (w : World) (hs : s.size ≤ 100000000) : Calls Tryd.prog 46 #[.string s, .string ⟨#[32, 9]⟩] w fun e w' => e = .returned (.string (textQ (trimH s.data.toList))) ∧ Below w.heap.size w w' := by
  refine (Any.strings_Trim_laid Tryd.lays160 (by kernel_rfl) s ⟨#[32, 9]⟩ w (by omega) (by decide) (ascii_of_all (by decide))).mono ?_
  rintro e w' ⟨he, hb⟩
  refine ⟨?_, hb⟩
  rw [he, show (⟨#[32, 9]⟩ : ByteArray).data.toList = [32, 9] from rfl, trimS_H]
  rfl
theorem trim_len (l : TextH) : (trimH l).length ≤ l.length := by
  unfold trimH
  rw [List.length_reverse]
  refine Nat.le_trans ((List.dropWhile_sublist _).length_le) ?_
  rw [List.length_reverse]
  exact (List.dropWhile_sublist _).length_le
theorem trim_same (b : TextH) : (trimH b == b) = (!(goesH b) && !(goesH b.reverse)) := by
  rw [Bool.eq_iff_iff, beq_iff_eq, Bool.and_eq_true, Bool.not_eq_true', Bool.not_eq_true']
  constructor
  · intro h
    constructor
    · cases b with
      | nil => rfl
      | cons c r =>
        show blankH c = false
        cases hc : blankH c with
        | false => rfl
        | true =>
          have h1 := congrArg List.length h
          unfold trimH at h1
          rw [List.dropWhile_cons, hc, if_pos rfl, List.length_reverse] at h1
          have h2 := (List.dropWhile_sublist blankH (l := (r.dropWhile blankH).reverse)).length_le
          have h3 := (List.dropWhile_sublist blankH (l := r)).length_le
          rw [List.length_reverse] at h2
          simp at h1
          omega
    · cases hb : b.reverse with
      | nil => rfl
      | cons c r =>
        show blankH c = false
        cases hc : blankH c with
        | false => rfl
        | true =>
          have h1 := congrArg List.length h
          have h4 : trimH b = (trimR b).dropWhile blankH := by rw [trim_two]; rfl
          rw [h4] at h1
          have h2 := (List.dropWhile_sublist blankH (l := trimR b)).length_le
          have h5 : (trimR b).length < b.length := by
            unfold trimR
            rw [hb, List.dropWhile_cons, hc, if_pos rfl, List.length_reverse]
            have h3 := (List.dropWhile_sublist blankH (l := r)).length_le
            have h6 := congrArg List.length hb
            rw [List.length_reverse, List.length_cons] at h6
            omega
          omega
  · rintro ⟨h1, h2⟩
    refine trim_body (fun c r e => ?_) (fun c r e => ?_)
    · rw [e] at h1
      exact h1
    · rw [e, List.reverse_append] at h2
      exact h2
theorem cany_not (b : TextH) : Lib.containsAny b [0, 13, 10] = !(b.all bodyC) := by
  induction b with
  | nil => rfl
  | cons c b ih =>
    unfold Lib.containsAny at ih ⊢
    have hge := Lib.indexAny_ge [0, 13, 10] b
    rw [List.all_cons]
    have hc : [0, 13, 10].contains c = !(bodyC c) := by
      unfold bodyC
      rw [Bool.eq_iff_iff, List.contains_iff_mem, Bool.not_eq_true', decide_eq_false_iff_not]
      simp only [List.mem_cons, List.not_mem_nil, or_false]
      constructor
      · rintro (rfl | rfl | rfl) <;> simp
      · intro h
        by_cases h0 : c = 0
        · exact .inl h0
        · by_cases h1 : c = 10
          · exact .inr (.inr h1)
          · by_cases h2 : c = 13
            · exact .inr (.inl h2)
            · exact absurd ⟨h0, h1, h2⟩ h
    unfold Lib.indexAny
    rw [hc]
    cases hb : bodyC c with
    | false => simp
    | true =>
      simp only [Bool.not_true, Bool.false_eq_true, if_false, Bool.true_and]
      rw [← ih]
      by_cases h1 : Lib.indexAny b [0, 13, 10] = -1
      · rw [h1]
        rfl
      · rw [if_neg (by simpa using h1), Bool.eq_iff_iff, decide_eq_true_eq, decide_eq_true_eq]
        omega

set_option maxRecDepth 100000 in
set_option maxHeartbeats 2000000 in
theorem hbody_any (s : ByteArray) (w : World) (hs : s.size ≤ 100000000) : Calls Tryd.prog 32 #[.string s] w fun e w' => e = .returned (.bool (bodyB s.data.toList)) ∧ Below w.heap.size w w' := by
  have hc := cany_any s w (by omega)
  have ht := fun W => trim_any s W hs
  have hb : bodyB s.data.toList = (!(Lib.containsAny s.data.toList [0, 13, 10]) && (trimH s.data.toList == s.data.toList)) := by
    rw [cany_not, trim_same, Bool.not_not]
    rfl
  rw [hb]
  cases h : Lib.containsAny s.data.toList [0, 13, 10] with
  | true =>
    rw [h] at hc
    clear hb h ht
    go_enter Tryd.func32, Tryd.ntmps32
    go_wp2_with fail
    refine hc.mono ?_
    rintro e w1 ⟨rfl, hw⟩
    go_wp2
    go_ret
    exact ⟨rfl, hw⟩
  | false =>
    rw [h] at hc
    obtain ⟨X, hX⟩ : ∃ X, textQ (trimH s.data.toList) = X := ⟨_, rfl⟩
    have he : (X.toList == s.toList) = (trimH s.data.toList == s.data.toList) := by
      rw [← hX, Lib.toList_data, Lib.toList_data]
      rfl
    simp only [hX] at ht
    rw [← he]
    clear hb h hX he
    go_enter Tryd.func32, Tryd.ntmps32
    go_wp2_with (first | (go_at_call 45; refine hc.mono ?_; rintro e w1 ⟨rfl, hw⟩) | (go_at_call 46; refine (ht _).mono ?_; rintro e w2 ⟨rfl, hw2⟩))
    go_ret
    exact ⟨rfl, hw.trans (hw2.mono hw.size)⟩

theorem infoField : (Tryd.prog.info? 38).map (fun i => (i.zero, i.size, i.bytes)) = some (some (.agg #[.string ⟨#[]⟩, .string ⟨#[]⟩]), 2, 32) := by kernel_rfl
/-- A field, as a value. -/
def fieldV (f : FieldH) : Value := .agg #[.string (textQ f.1), .string (textQ f.2)]

set_option maxRecDepth 100000 in
set_option maxHeartbeats 2000000 in
theorem hright_any (f : FieldH) (w : World) (hs : f.2.length ≤ 100000000) : Calls Tryd.prog 17 #[fieldV f] w fun e w' => e = .returned (.bool (rightB f)) ∧ Below w.heap.size w w' := by
  rw [right_two]
  obtain ⟨X, hX⟩ : ∃ X, textQ f.1 = X := ⟨_, rfl⟩
  obtain ⟨Y, hY⟩ : ∃ Y, textQ f.2 = Y := ⟨_, rfl⟩
  have h1 := fun W => hname_any X W
  have h2 := fun W => hbody_any Y W (by rw [← hY]; exact hs)
  rw [show X.data.toList = f.1 by rw [← hX]; rfl] at h1
  rw [show Y.data.toList = f.2 by rw [← hY]; rfl] at h2
  unfold fieldV
  rw [hX, hY]
  clear hX hY
  cases hn : nameB f.1 with
  | true =>
    rw [hn] at h1
    go_enter Tryd.func17, Tryd.ntmps17
    go_wp2_with (first | (go_at_call 31; refine (h1 _).mono ?_; rintro e w1 ⟨rfl, h9⟩; obtain rfl := h9.symm) | (go_at_call 32; refine (h2 _).mono ?_; rintro e w2 ⟨rfl, hw2⟩))
    go_ret
    exact ⟨rfl, ((Below.refl _ w).alloc (Nat.le_refl _) _).trans (hw2.mono (by simp))⟩
  | false =>
    rw [hn] at h1
    go_enter Tryd.func17, Tryd.ntmps17
    go_wp2_with (first | (go_at_call 31; refine (h1 _).mono ?_; rintro e w1 ⟨rfl, h9⟩; obtain rfl := h9.symm) | (go_at_call 32; refine (h2 _).mono ?_; rintro e w2 ⟨rfl, hw2⟩))
    go_ret
    exact ⟨rfl, (Below.refl _ w).alloc (Nat.le_refl _) _⟩

/-- Fields that lie in memory, wherever. -/
def FieldsAt (w : World) (B : Nat) (v : Value) (l : List FieldH) : Prop :=
  ∃ ao cap, v = .slice ao l.length cap ∧ l.length ≤ cap ∧ cap ≤ maxLen ∧ ∀ i (hi : i < l.length), ∃ g off, ao = some ⟨g, off, none⟩ ∧ g < B ∧
    w.cell? ⟨g, off + i * 2, none⟩ = some (.string (textQ l[i].1)) ∧ w.cell? ⟨g, off + i * 2 + 1, none⟩ = some (.string (textQ l[i].2))
theorem FieldsAt.below {w w' : World} {B B' : Nat} {v : Value} {l : List FieldH} (h : FieldsAt w B v l) (hb : Below B' w w') (hB : B ≤ B') : FieldsAt w' B v l := by
  obtain ⟨ao, cap, h1, h2, h3, h4⟩ := h
  refine ⟨ao, cap, h1, h2, h3, fun i hi => ?_⟩
  obtain ⟨g, off, q1, q2, q3, q4⟩ := h4 i hi
  have hc : ∀ j, w'.cell? ⟨g, j, none⟩ = w.cell? ⟨g, j, none⟩ := fun j => hb.cell (p := ⟨g, j, none⟩) (by show g < B'; omega)
  exact ⟨g, off, q1, q2, (hc _).trans q3, (hc _).trans q4⟩
theorem FieldsAt.up {w : World} {B B' : Nat} {v : Value} {l : List FieldH} (h : FieldsAt w B v l) (hB : B ≤ B') : FieldsAt w B' v l := by
  obtain ⟨ao, cap, h1, h2, h3, h4⟩ := h
  refine ⟨ao, cap, h1, h2, h3, fun i hi => ?_⟩
  obtain ⟨g, off, q1, q2, q3⟩ := h4 i hi
  exact ⟨g, off, q1, by omega, q3⟩
theorem FieldsAt.cells {w : World} {B n : Nat} {ao : Option Addr} {cap : Nat} {l : List FieldH} (h : FieldsAt w B (.slice ao n cap) l) (hn : n = l.length) {i : Nat} (hi : i < l.length) : ∃ g off, ao = some ⟨g, off, none⟩ ∧ g < B ∧
    w.cell? ⟨g, off + i * 2, none⟩ = some (.string (textQ l[i].1)) ∧ w.cell? ⟨g, off + i * 2 + 1, none⟩ = some (.string (textQ l[i].2)) := by
  obtain ⟨ao', cap', e, h2, h3, h4⟩ := h
  obtain ⟨rfl, _, rfl⟩ := Value.slice.inj e
  exact h4 i hi
/-- Fields of no great length. -/
def SmallF (n : Nat) (l : List FieldH) : Prop := ∀ f ∈ l, f.1.length ≤ n ∧ f.2.length ≤ n
theorem get_cons (f : FieldH) (l : List FieldH) (name : TextH) : getH (f :: l) name = if sameH f.1 name = true then some f.2 else getH l name := by
  unfold getH
  rw [List.find?_cons]
  cases sameH f.1 name <;> rfl
/-- What asking a name comes to. -/
def foundH (o : Option TextH) : Value := .tuple #[.string (textQ (o.getD [])), .bool o.isSome]
theorem sclone_any (s : ByteArray) (w : World) (hs : s.size ≤ 100000000) : Calls Tryd.prog 29 #[.string s] w fun e w' => e = .returned (.string s) ∧ Below w.heap.size w w' := by
  have hc := Tryd.stringslite_Clone s w (by omega)
  go_enter Tryd.func29, Tryd.ntmps29
  go_wp2_with (go_at_call 44; refine hc.mono ?_; rintro e w' ⟨rfl, hw⟩)
  go_ret
  exact ⟨rfl, hw⟩

set_option maxRecDepth 100000 in
set_option maxHeartbeats 2000000 in
theorem hget_any (B : Nat) (v : Value) (l : List FieldH) (name : ByteArray) (w : World) (h : FieldsAt w B v l) (hB : B ≤ w.heap.size) (hsm : SmallF 1000000 l) (hn : name.size ≤ 1000000) :
    Calls Tryd.prog 15 #[v, .string name] w fun e w' => e = .returned (foundH (getH l name.data.toList)) ∧ Below w.heap.size w w' := by
  obtain ⟨ao, cap, rfl, hc1, hc2, hat⟩ := h
  have Hat := Lib.hid hat
  have Hsm := Lib.hid hsm
  obtain ⟨n, hnl⟩ : ∃ n, l.length = n := ⟨_, rfl⟩
  have Hn := Lib.hid hnl
  unfold maxLen at hc2
  rw [hnl] at hc1 ⊢
  clear hat hsm hnl
  go_enter Tryd.func15, Tryd.ntmps15
  go_wp2
  go_loopw [7, 10] (fun _ iv wr => ∃ i : Nat, i ≤ n ∧ iv = .int .i64 i ∧ Hid (getH (l.drop i) name.data.toList = getH l name.data.toList) ∧ Below w.heap.size w wr) (fun _ iv _ => n - (intOf iv).toNat)
  case atStart => exact ⟨0, by omega, rfl, Lib.hid rfl, Below.refl _ _⟩
  case round =>
    obtain ⟨i, hi, rfl, hg, hbr⟩ := hrel
    by_cases hlt : i < n
    · have hil : i < l.length := by rw [Hn.out]; exact hlt
      obtain ⟨g, off, rfl, hgB, z0, z1⟩ := Hat.out i hil
      obtain ⟨s0, s1⟩ := Hsm.out _ (List.getElem_mem hil)
      have hg2 := hg.out
      rw [List.drop_eq_getElem_cons hil, get_cons] at hg2
      obtain ⟨f, hf⟩ : ∃ f, l[i] = f := ⟨_, rfl⟩
      rw [hf] at z0 z1 s0 s1 hg2
      obtain ⟨X, hX⟩ : ∃ X, textQ f.1 = X := ⟨_, rfl⟩
      obtain ⟨Y, hY⟩ : ∃ Y, textQ f.2 = Y := ⟨_, rfl⟩
      have hXs : X.size ≤ 1000000 := by rw [← hX]; exact s0
      have hYs : Y.size ≤ 1000000 := by rw [← hY]; exact s1
      rw [hX] at z0
      rw [hY] at z1
      have y0 := (hbr.cell (p := ⟨g, off + i * 2, none⟩) (by show g < w.heap.size; omega)).trans z0
      have y1 := (hbr.cell (p := ⟨g, off + i * 2 + 1, none⟩) (by show g < w.heap.size; omega)).trans z1
      have hgr : g < wr.heap.size := by have := hbr.size; omega
      have hsame := fun W => hsame_any X name W hXs hn
      rw [show X.data.toList = f.1 by rw [← hX]; rfl] at hsame
      have hcl := fun W => sclone_any Y W (by omega)
      have hr2 : Hid (sameH f.1 name.data.toList = true → foundH (getH l name.data.toList) = .tuple #[.string Y, .bool true]) := Lib.hid fun h => by
        rw [if_pos h] at hg2
        rw [← hg2, ← hY]
        rfl
      have hr3 : Hid (sameH f.1 name.data.toList = false → getH (l.drop (i + 1)) name.data.toList = getH l name.data.toList) := Lib.hid fun h => by
        rw [if_neg (by rw [h]; simp)] at hg2
        exact hg2
      have hbz := hbr.size
      clear z0 z1 s0 s1 hf hX hY hg hg2 hil
      cases hq : sameH f.1 name.data.toList with
      | true =>
        rw [hq] at hsame
        have Hr := Lib.hid (hr2.out hq)
        clear hr2 hr3 hq
        go_wp2_with (first | (go_at_call 19; refine (hsame _).mono ?_; rintro e w1 ⟨rfl, hw1⟩; have y5 : w1.cell? ⟨wr.heap.size, 1, none⟩ = some (.string Y) := (hw1.cell (p := ⟨wr.heap.size, 1, none⟩) (by simp)).trans (by go_simp)) | (go_at_call 29; refine (hcl _).mono ?_; rintro e w2 ⟨rfl, hw2⟩))
        go_ret2
        have hb1 := (hbr.alloc hbz _).trans (hw1.mono (by simp; omega))
        exact ⟨by rw [Hr.out]; rfl, hb1.trans (hw2.mono hb1.size)⟩
      | false =>
        rw [hq] at hsame
        have Hr := Lib.hid (hr3.out hq)
        clear hr2 hr3 hq
        go_wp2_with (first | (go_at_call 19; refine (hsame _).mono ?_; rintro e w1 ⟨rfl, hw1⟩) | (go_at_call 29; refine (hcl _).mono ?_; rintro e w2 ⟨rfl, hw2⟩))
        have hb1 := (hbr.alloc hbz _).trans (hw1.mono (by simp; omega))
        go_roundw
        case rel => exact ⟨i + 1, by omega, by go_num, Hr, hb1⟩
        case measure => simp [intOf]; omega
    · obtain rfl : i = n := by omega
      have hg2 := hg.out
      rw [List.drop_of_length_le (by rw [Hn.out]; exact Nat.le_refl _)] at hg2
      have Hr := Lib.hid hg2
      clear hg2 hg
      go_wp2
      go_ret2
      exact ⟨by rw [← Hr.out]; rfl, hbr⟩
end Go.Proofs.YtneihcdeflfahaaDoor
