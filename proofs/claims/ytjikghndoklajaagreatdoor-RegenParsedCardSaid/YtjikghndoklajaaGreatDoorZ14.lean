/-
  Texts of this proof, put together: HdB, HdC.
-/
import Derived.Test.YtjikghndoklajaaGreatDoorZ09
import Derived.Test.YtjikghndoklajaaGreatDoorZ05
import Derived.Test.YtjikghndoklajaaGreatDoorZ13
import Derived.Laws.AppendOwn
import Derived.Test.YtjikghndoklajaaGreatDoorZ11
namespace Go.Proofs.YtjikghndoklajaaGreatDoor
open Go.RowKit

def trimR (l : TextH) : TextH := (l.reverse.dropWhile blankH).reverse
theorem trimR_cons (c : UInt8) (l : TextH) : trimR (c :: l) = if trimR l = [] ∧ blankH c = true then [] else c :: trimR l := by
  unfold trimR
  rw [List.reverse_cons, List.dropWhile_append]
  cases h : l.reverse.dropWhile blankH with
  | nil =>
    cases hc : blankH c <;> simp [List.dropWhile, hc]
  | cons d r => simp
theorem trim_two : ∀ l : TextH, (trimR l).dropWhile blankH = trimR (l.dropWhile blankH)
  | [] => rfl
  | c :: l => by
    have ih := trim_two l
    rw [trimR_cons, List.dropWhile_cons]
    cases hc : blankH c with
    | true =>
      by_cases h0 : trimR l = []
      · rw [if_pos ⟨h0, rfl⟩, if_pos rfl, ← ih, h0]
      · rw [if_neg (fun h => h0 h.1), if_pos rfl, List.dropWhile_cons, hc, if_pos rfl, ih]
    | false =>
      rw [if_neg (by simp), if_neg (by simp), List.dropWhile_cons, hc, if_neg (by simp), trimR_cons, hc, if_neg (by simp)]
theorem blank_in (c : UInt8) : [32, 9].contains c = blankH c := by
  unfold blankH
  rw [Bool.eq_iff_iff, List.contains_iff_mem, Bool.or_eq_true, beq_iff_eq, beq_iff_eq]
  simp
theorem trimS_H (l : TextH) : Lib.trimS l [32, 9] = trimH l := by
  unfold Lib.trimS Lib.trimLeftS Lib.trimRightS
  rw [show (fun x => [32, 9].contains x) = blankH from funext blank_in]
  exact trim_two l
theorem trim_any (s : ByteArray) (w : World) (hs : s.size ≤ 100000000) : Calls Tryz.prog 97 #[.string s, .string ⟨#[32, 9]⟩] w fun e w' => e = .returned (.string (textQ (trimH s.data.toList))) ∧ Below w.heap.size w w' := by
  refine (Any.strings_Trim_laid Tryz.lays160 (by kernel_rfl) s ⟨#[32, 9]⟩ w (by omega) (by decide) (ascii_of_all (by decide))).mono ?_
  rintro e w' ⟨he, hb⟩
  refine ⟨?_, hb⟩
  rw [he, show (⟨#[32, 9]⟩ : ByteArray).data.toList = [32, 9] from rfl, trimS_H]
  rfl
theorem trim_len (l : TextH) : (trimH l).length ≤ l.length := by
  unfold trimH
  rw [List.length_reverse]
  refine Nat.le_trans ((List.dropWhile_sublist _).length_le) ?_
  rw [List.length_reverse]
  exact (List.dropWhile_sublist _).length_le
theorem trim_same (b : TextH) : (trimH b == b) = (!(goesH b) && !(goesH b.reverse)) := by
  rw [Bool.eq_iff_iff, beq_iff_eq, Bool.and_eq_true, Bool.not_eq_true', Bool.not_eq_true']
  constructor
  · intro h
    constructor
    · cases b with
      | nil => rfl
      | cons c r =>
        show blankH c = false
        cases hc : blankH c with
        | false => rfl
        | true =>
          have h1 := congrArg List.length h
          unfold trimH at h1
          rw [List.dropWhile_cons, hc, if_pos rfl, List.length_reverse] at h1
          have h2 := (List.dropWhile_sublist blankH (l := (r.dropWhile blankH).reverse)).length_le
          have h3 := (List.dropWhile_sublist blankH (l := r)).length_le
          rw [List.length_reverse] at h2
          simp at h1
          omega
    · cases hb : b.reverse with
      | nil => rfl
      | cons c r =>
        show blankH c = false
        cases hc : blankH c with
        | false => rfl
        | true =>
          have h1 := congrArg List.length h
          have h4 : trimH b = (trimR b).dropWhile blankH := by rw [trim_two]; rfl
          rw [h4] at h1
          have h2 := (List.dropWhile_sublist blankH (l := trimR b)).length_le
          have h5 : (trimR b).length < b.length := by
            unfold trimR
            rw [hb, List.dropWhile_cons, hc, if_pos rfl, List.length_reverse]
            have h3 := (List.dropWhile_sublist blankH (l := r)).length_le
            have h6 := congrArg List.length hb
            rw [List.length_reverse, List.length_cons] at h6
            omega
          omega
  · rintro ⟨h1, h2⟩
    refine trim_body (fun c r e => ?_) (fun c r e => ?_)
    · rw [e] at h1
      exact h1
    · rw [e, List.reverse_append] at h2
      exact h2
theorem cany_not (b : TextH) : Lib.containsAny b [0, 13, 10] = !(b.all bodyC) := by
  induction b with
  | nil => rfl
  | cons c b ih =>
    unfold Lib.containsAny at ih ⊢
    have hge := Lib.indexAny_ge [0, 13, 10] b
    rw [List.all_cons]
    have hc : [0, 13, 10].contains c = !(bodyC c) := by
      unfold bodyC
      rw [Bool.eq_iff_iff, List.contains_iff_mem, Bool.not_eq_true', decide_eq_false_iff_not]
      simp only [List.mem_cons, List.not_mem_nil, or_false]
      constructor
      · rintro (rfl | rfl | rfl) <;> simp
      · intro h
        by_cases h0 : c = 0
        · exact .inl h0
        · by_cases h1 : c = 10
          · exact .inr (.inr h1)
          · by_cases h2 : c = 13
            · exact .inr (.inl h2)
            · exact absurd ⟨h0, h1, h2⟩ h
    unfold Lib.indexAny
    rw [hc]
    cases hb : bodyC c with
    | false => simp
    | true =>
      simp only [Bool.not_true, Bool.false_eq_true, if_false, Bool.true_and]
      rw [← ih]
      by_cases h1 : Lib.indexAny b [0, 13, 10] = -1
      · rw [h1]
        rfl
      · rw [if_neg (by simpa using h1), Bool.eq_iff_iff, decide_eq_true_eq, decide_eq_true_eq]
        omega

set_option maxRecDepth 100000 in
set_option maxHeartbeats 2000000 in
theorem hbody_any (s : ByteArray) (w : World) (hs : s.size ≤ 100000000) : Calls Tryz.prog 86 #[.string s] w fun e w' => e = .returned (.bool (bodyB s.data.toList)) ∧ Below w.heap.size w w' := by
  have hc := cany_any s w (by omega)
  have ht := fun W => trim_any s W hs
  have hb : bodyB s.data.toList = (!(Lib.containsAny s.data.toList [0, 13, 10]) && (trimH s.data.toList == s.data.toList)) := by
    rw [cany_not, trim_same, Bool.not_not]
    rfl
  rw [hb]
  cases h : Lib.containsAny s.data.toList [0, 13, 10] with
  | true =>
    rw [h] at hc
    clear hb h ht
    go_enter Tryz.func86, Tryz.ntmps86
    go_wp2_with fail
    refine hc.mono ?_
    rintro e w1 ⟨rfl, hw⟩
    go_wp2
    go_ret
    exact ⟨rfl, hw⟩
  | false =>
    rw [h] at hc
    obtain ⟨X, hX⟩ : ∃ X, textQ (trimH s.data.toList) = X := ⟨_, rfl⟩
    have he : (X.toList == s.toList) = (trimH s.data.toList == s.data.toList) := by
      rw [← hX, Lib.toList_data, Lib.toList_data]
      rfl
    simp only [hX] at ht
    rw [← he]
    clear hb h hX he
    go_enter Tryz.func86, Tryz.ntmps86
    go_wp2_with (first | (go_at_call 122; refine hc.mono ?_; rintro e w1 ⟨rfl, hw⟩) | (go_at_call 97; refine (ht _).mono ?_; rintro e w2 ⟨rfl, hw2⟩))
    go_ret
    exact ⟨rfl, hw.trans (hw2.mono hw.size)⟩

theorem infoField : (Tryz.prog.info? 38).map (fun i => (i.zero, i.size, i.bytes)) = some (some (.agg #[.string ⟨#[]⟩, .string ⟨#[]⟩]), 2, 32) := by kernel_rfl
def fieldV (f : FieldH) : Value := .agg #[.string (textQ f.1), .string (textQ f.2)]

set_option maxRecDepth 100000 in
set_option maxHeartbeats 2000000 in
theorem hright_any (f : FieldH) (w : World) (hs : f.2.length ≤ 100000000) : Calls Tryz.prog 52 #[fieldV f] w fun e w' => e = .returned (.bool (rightB f)) ∧ Below w.heap.size w w' := by
  rw [right_two]
  obtain ⟨X, hX⟩ : ∃ X, textQ f.1 = X := ⟨_, rfl⟩
  obtain ⟨Y, hY⟩ : ∃ Y, textQ f.2 = Y := ⟨_, rfl⟩
  have h1 := fun W => hname_any X W
  have h2 := fun W => hbody_any Y W (by rw [← hY]; exact hs)
  rw [show X.data.toList = f.1 by rw [← hX]; rfl] at h1
  rw [show Y.data.toList = f.2 by rw [← hY]; rfl] at h2
  unfold fieldV
  rw [hX, hY]
  clear hX hY
  cases hn : nameB f.1 with
  | true =>
    rw [hn] at h1
    go_enter Tryz.func52, Tryz.ntmps52
    go_wp2_with (first | (go_at_call 85; refine (h1 _).mono ?_; rintro e w1 ⟨rfl, h9⟩; obtain rfl := h9.symm) | (go_at_call 86; refine (h2 _).mono ?_; rintro e w2 ⟨rfl, hw2⟩))
    go_ret
    exact ⟨rfl, ((Below.refl _ w).alloc (Nat.le_refl _) _).trans (hw2.mono (by simp))⟩
  | false =>
    rw [hn] at h1
    go_enter Tryz.func52, Tryz.ntmps52
    go_wp2_with (first | (go_at_call 85; refine (h1 _).mono ?_; rintro e w1 ⟨rfl, h9⟩; obtain rfl := h9.symm) | (go_at_call 86; refine (h2 _).mono ?_; rintro e w2 ⟨rfl, hw2⟩))
    go_ret
    exact ⟨rfl, (Below.refl _ w).alloc (Nat.le_refl _) _⟩

def FieldsAt (w : World) (B : Nat) (v : Value) (l : List FieldH) : Prop :=
  ∃ ao cap, v = .slice ao l.length cap ∧ l.length ≤ cap ∧ cap ≤ maxLen ∧ ∀ i (hi : i < l.length), ∃ g off, ao = some ⟨g, off, none⟩ ∧ g < B ∧
    w.cell? ⟨g, off + i * 2, none⟩ = some (.string (textQ l[i].1)) ∧ w.cell? ⟨g, off + i * 2 + 1, none⟩ = some (.string (textQ l[i].2))
theorem FieldsAt.below {w w' : World} {B B' : Nat} {v : Value} {l : List FieldH} (h : FieldsAt w B v l) (hb : Below B' w w') (hB : B ≤ B') : FieldsAt w' B v l := by
  obtain ⟨ao, cap, h1, h2, h3, h4⟩ := h
  refine ⟨ao, cap, h1, h2, h3, fun i hi => ?_⟩
  obtain ⟨g, off, q1, q2, q3, q4⟩ := h4 i hi
  have hc : ∀ j, w'.cell? ⟨g, j, none⟩ = w.cell? ⟨g, j, none⟩ := fun j => hb.cell (p := ⟨g, j, none⟩) (by show g < B'; omega)
  exact ⟨g, off, q1, q2, (hc _).trans q3, (hc _).trans q4⟩
theorem FieldsAt.up {w : World} {B B' : Nat} {v : Value} {l : List FieldH} (h : FieldsAt w B v l) (hB : B ≤ B') : FieldsAt w B' v l := by
  obtain ⟨ao, cap, h1, h2, h3, h4⟩ := h
  refine ⟨ao, cap, h1, h2, h3, fun i hi => ?_⟩
  obtain ⟨g, off, q1, q2, q3⟩ := h4 i hi
  exact ⟨g, off, q1, by omega, q3⟩
theorem FieldsAt.cells {w : World} {B n : Nat} {ao : Option Addr} {cap : Nat} {l : List FieldH} (h : FieldsAt w B (.slice ao n cap) l) (_hn : n = l.length) {i : Nat} (hi : i < l.length) : ∃ g off, ao = some ⟨g, off, none⟩ ∧ g < B ∧
    w.cell? ⟨g, off + i * 2, none⟩ = some (.string (textQ l[i].1)) ∧ w.cell? ⟨g, off + i * 2 + 1, none⟩ = some (.string (textQ l[i].2)) := by
  obtain ⟨ao', cap', e, h2, h3, h4⟩ := h
  obtain ⟨rfl, _, rfl⟩ := Value.slice.inj e
  exact h4 i hi
def SmallF (n : Nat) (l : List FieldH) : Prop := ∀ f ∈ l, f.1.length ≤ n ∧ f.2.length ≤ n
theorem get_cons (f : FieldH) (l : List FieldH) (name : TextH) : getH (f :: l) name = if sameH f.1 name = true then some f.2 else getH l name := by
  unfold getH
  rw [List.find?_cons]
  cases sameH f.1 name <;> rfl
def foundH (o : Option TextH) : Value := .tuple #[.string (textQ (o.getD [])), .bool o.isSome]
theorem sclone_any (s : ByteArray) (w : World) (hs : s.size ≤ 100000000) : Calls Tryz.prog 20 #[.string s] w fun e w' => e = .returned (.string s) ∧ Below w.heap.size w w' := by
  have hc := Tryz.stringslite_Clone s w (by omega)
  go_enter Tryz.func20, Tryz.ntmps20
  go_wp2_with (go_at_call 34; refine hc.mono ?_; rintro e w' ⟨rfl, hw⟩)
  go_ret
  exact ⟨rfl, hw⟩

set_option maxRecDepth 100000 in
set_option maxHeartbeats 2000000 in
theorem hget_any (B : Nat) (v : Value) (l : List FieldH) (name : ByteArray) (w : World) (h : FieldsAt w B v l) (hB : B ≤ w.heap.size) (hsm : SmallF 1000000 l) (hn : name.size ≤ 1000000) :
    Calls Tryz.prog 38 #[v, .string name] w fun e w' => e = .returned (foundH (getH l name.data.toList)) ∧ Below w.heap.size w w' := by
  obtain ⟨ao, cap, rfl, hc1, hc2, hat⟩ := h
  have Hat := Lib.hid hat
  have Hsm := Lib.hid hsm
  obtain ⟨n, hnl⟩ : ∃ n, l.length = n := ⟨_, rfl⟩
  have Hn := Lib.hid hnl
  unfold maxLen at hc2
  rw [hnl] at hc1 ⊢
  clear hat hsm hnl
  go_enter Tryz.func38, Tryz.ntmps38
  go_wp2
  go_loopw [7, 10] (fun _ iv wr => ∃ i : Nat, i ≤ n ∧ iv = .int .i64 i ∧ Hid (getH (l.drop i) name.data.toList = getH l name.data.toList) ∧ Below w.heap.size w wr) (fun _ iv _ => n - (intOf iv).toNat)
  case atStart => exact ⟨0, by omega, rfl, Lib.hid rfl, Below.refl _ _⟩
  case round =>
    obtain ⟨i, hi, rfl, hg, hbr⟩ := hrel
    by_cases hlt : i < n
    · have hil : i < l.length := by rw [Hn.out]; exact hlt
      obtain ⟨g, off, rfl, hgB, z0, z1⟩ := Hat.out i hil
      obtain ⟨s0, s1⟩ := Hsm.out _ (List.getElem_mem hil)
      have hg2 := hg.out
      rw [List.drop_eq_getElem_cons hil, get_cons] at hg2
      obtain ⟨f, hf⟩ : ∃ f, l[i] = f := ⟨_, rfl⟩
      rw [hf] at z0 z1 s0 s1 hg2
      obtain ⟨X, hX⟩ : ∃ X, textQ f.1 = X := ⟨_, rfl⟩
      obtain ⟨Y, hY⟩ : ∃ Y, textQ f.2 = Y := ⟨_, rfl⟩
      have hXs : X.size ≤ 1000000 := by rw [← hX]; exact s0
      have hYs : Y.size ≤ 1000000 := by rw [← hY]; exact s1
      rw [hX] at z0
      rw [hY] at z1
      have y0 := (hbr.cell (p := ⟨g, off + i * 2, none⟩) (by show g < w.heap.size; omega)).trans z0
      have y1 := (hbr.cell (p := ⟨g, off + i * 2 + 1, none⟩) (by show g < w.heap.size; omega)).trans z1
      have hgr : g < wr.heap.size := by have := hbr.size; omega
      have hsame := fun W => hsame_any X name W hXs hn
      rw [show X.data.toList = f.1 by rw [← hX]; rfl] at hsame
      have hcl := fun W => sclone_any Y W (by omega)
      have hr2 : Hid (sameH f.1 name.data.toList = true → foundH (getH l name.data.toList) = .tuple #[.string Y, .bool true]) := Lib.hid fun h => by
        rw [if_pos h] at hg2
        rw [← hg2, ← hY]
        rfl
      have hr3 : Hid (sameH f.1 name.data.toList = false → getH (l.drop (i + 1)) name.data.toList = getH l name.data.toList) := Lib.hid fun h => by
        rw [if_neg (by rw [h]; simp)] at hg2
        exact hg2
      have hbz := hbr.size
      clear z0 z1 s0 s1 hf hX hY hg hg2 hil
      cases hq : sameH f.1 name.data.toList with
      | true =>
        rw [hq] at hsame
        have Hr := Lib.hid (hr2.out hq)
        clear hr2 hr3 hq
        go_wp2_with (first | (go_at_call 40; refine (hsame _).mono ?_; rintro e w1 ⟨rfl, hw1⟩; have y5 : w1.cell? ⟨wr.heap.size, 1, none⟩ = some (.string Y) := (hw1.cell (p := ⟨wr.heap.size, 1, none⟩) (by simp)).trans (by go_simp)) | (go_at_call 20; refine (hcl _).mono ?_; rintro e w2 ⟨rfl, hw2⟩))
        go_ret2
        have hb1 := (hbr.alloc hbz _).trans (hw1.mono (by simp; omega))
        exact ⟨by rw [Hr.out]; rfl, hb1.trans (hw2.mono hb1.size)⟩
      | false =>
        rw [hq] at hsame
        have Hr := Lib.hid (hr3.out hq)
        clear hr2 hr3 hq
        go_wp2_with (first | (go_at_call 40; refine (hsame _).mono ?_; rintro e w1 ⟨rfl, hw1⟩) | (go_at_call 20; refine (hcl _).mono ?_; rintro e w2 ⟨rfl, hw2⟩))
        have hb1 := (hbr.alloc hbz _).trans (hw1.mono (by simp; omega))
        go_roundw
        case rel => exact ⟨i + 1, by omega, by go_num, Hr, hb1⟩
        case measure => simp [intOf]; omega
    · obtain rfl : i = n := by omega
      have hg2 := hg.out
      rw [List.drop_of_length_le (by rw [Hn.out]; exact Nat.le_refl _)] at hg2
      have Hr := Lib.hid hg2
      clear hg2 hg
      go_wp2
      go_ret2
      exact ⟨by rw [← Hr.out]; rfl, hbr⟩
end Go.Proofs.YtjikghndoklajaaGreatDoor
namespace Go.Proofs.YtjikghndoklajaaGreatDoor
open Go.RowKit

def KeptH (N b c : Nat) (w w' : World) : Prop := w.heap.size ≤ w'.heap.size ∧ ∀ k o, w.heap[k]? = some o → k ≠ N → k ≠ b → k ≠ c → (∀ x fz, o ≠ .cells x 5 fz) → w'.heap[k]? = some o
theorem KeptH.refl (N b c : Nat) (w : World) : KeptH N b c w w := ⟨Nat.le_refl _, fun _ _ h _ _ _ _ => h⟩
theorem KeptH.trans {N b c : Nat} {u v w : World} (h : KeptH N b c u v) (k : KeptH N b c v w) : KeptH N b c u w := ⟨Nat.le_trans h.1 k.1, fun i o hi hN hb hc ho => k.2 i o (h.2 i o hi hN hb hc ho) hN hb hc ho⟩
theorem KeptH.of {N b c : Nat} {w w' : World} (h : Lib.OthersKept 5 (some b) w w') (hz : w.heap.size ≤ w'.heap.size) : KeptH N b c w w' := ⟨hz, fun k o hk _ hb _ ho => h k o hk (by simpa using hb) ho⟩
theorem KeptH.set {N b c : Nat} {u w : World} (h : KeptH N b c u w) (v : Value) : KeptH N b c u (w.setCell ⟨c, 0, none⟩ v) := ⟨by simpa [World.setCell] using h.1, fun k o hk hN hb hc ho =>
  (Below.heap_setCell w ⟨c, 0, none⟩ v k hc).trans (h.2 k o hk hN hb hc ho)⟩
theorem KeptH.setN {N b c : Nat} {u w : World} (h : KeptH N b c u w) (v : Value) : KeptH N b c u (w.setCell ⟨N, 0, none⟩ v) := ⟨by simpa [World.setCell] using h.1, fun k o hk hN hb hc ho =>
  (Below.heap_setCell w ⟨N, 0, none⟩ v k hN).trans (h.2 k o hk hN hb hc ho)⟩
theorem KeptH.box {N b c B : Nat} {w w' : World} {t : TypeId} {v : Value} (h : KeptH N b c w w') (ht : t ≠ 5) (hN : B ≠ N) (hb : B ≠ b) (hc : B ≠ c) (hx : Boxed w B t v) : Boxed w' B t v :=
  h.2 B _ hx hN hb hc (fun x fz e => by cases e; exact ht rfl)
theorem box_neH {w : World} {C D : Nat} {s t : TypeId} {u v : Value} (hC : Boxed w C s u) (hD : Boxed w D t v) (h : s ≠ t) : C ≠ D := fun e => by
  have hC : w.heap[C]? = some (.cells #[u] s (0, 0)) := hC
  have hD : w.heap[D]? = some (.cells #[v] t (0, 0)) := hD
  rw [e, hD] at hC
  simp at hC
  exact h hC.2.symm

def brkH (fr : Bool) (k : Nat) (x : TextH) : Bool := !fr && (decide (x ≠ []) && decide (78 < k + (1 + x.length)))
def pieceH (fr : Bool) (k : Nat) (x : TextH) : TextH := (if brkH fr k x = true then [13, 10] else []) ++ 32 :: x
def lineH (fr : Bool) (k : Nat) (x : TextH) : Nat := (if brkH fr k x = true then 0 else k) + (1 + x.length)

set_option maxRecDepth 100000 in
set_option maxHeartbeats 4000000 in
theorem hput_any (B b C D E : Nat) (acc : TextH) (k : Nat) (fr : Bool) (x : ByteArray) (w : World) (h : Lib.BuilderAt 113 5 B b (.pointer (some ⟨b, 0, none⟩)) (Lib.byteCells acc) w)
    (hC : Boxed w C 111 (.pointer (some ⟨b, 0, none⟩))) (hD : Boxed w D 3 (.int .i64 k)) (hE : Boxed w E 4 (.bool fr)) (hBD : B ≤ D) (hBE : B ≤ E) (hlen : acc.length + x.size + 3 ≤ 1000000000) (hBw : B ≤ w.heap.size) (hk : k ≤ 1000000) (hx : x.size ≤ 10000000) :
    Calls Tryz.prog 177 #[.string x, .pointer (some ⟨E, 0, none⟩), .pointer (some ⟨D, 0, none⟩), .pointer (some ⟨C, 0, none⟩)] w fun e w' => e = .returned (.bool (decide ((lineH fr k x.data.toList : Int) ≤ 998))) ∧
      (Lib.BuilderAt 113 5 B b (.pointer (some ⟨b, 0, none⟩)) (Lib.byteCells (acc ++ pieceH fr k x.data.toList)) w' ∧ Boxed w' E 4 (.bool false) ∧ Boxed w' D 3 (.int .i64 (lineH fr k x.data.toList : Nat)) ∧ Boxed w' C 111 (.pointer (some ⟨b, 0, none⟩)) ∧ Below B w w' ∧ KeptH E b D w w') := by
  have hxl : x.data.toList.length = x.size := rfl
  have nC := builder_ne h hC
  have nD := builder_ne h hD
  have nE := builder_ne h hE
  have nCD := box_neH hC hD (by decide)
  have nCE := box_neH hC hE (by decide)
  have nDE := box_neH hE hD (by decide)
  have c1 := hC.cell
  have c2 := hD.cell
  have c3 := hE.cell
  have f2 := hD.frozen
  have HC := Lib.hid hC
  have HD := Lib.hid hD
  have HE := Lib.hid hE
  have K0 := Lib.hid (KeptH.refl E b D w)
  have L0 := Lib.hid (Below.refl B w)
  have he0 : x.toList.isEmpty = decide (x.data.toList = []) := by
    rw [Lib.toList_data]
    cases x.data.toList <;> rfl
  cases hbk : brkH fr k x.data.toList with
  | false =>
    have e1 : acc ++ pieceH fr k x.data.toList = acc ++ [32] ++ x.data.toList := by unfold pieceH; rw [hbk, if_neg (by simp)]; simp
    have e2 : (lineH fr k x.data.toList : Int) = (k : Int) + (1 + (x.size : Int)) := by unfold lineH; rw [hbk, if_neg (by simp), hxl]; push_cast; rfl
    rw [e1, show ((lineH fr k x.data.toList : Nat) : Int) = _ from e2]
    unfold brkH at hbk
    cases fr with
    | true =>
      clear e1 e2 hbk hC hD hE hxl he0
      go_enter Tryz.func177, Tryz.ntmps177
      have hb2 := bwrite_k B b (Lib.byteCells (acc)) ⟨#[32]⟩ w h (by rw [Lib.byteCells_length]; show _ + 1 ≤ _; omega) hBw
      rw [show Lib.byteCells (acc) ++ Lib.strCells ⟨#[32]⟩ = Lib.byteCells (acc ++ [32]) by rw [Lib.byteCells_append (acc)]; rfl] at hb2
      go_wp2_with (go_at_call 74; refine hb2.mono ?_)
      rintro e w4 ⟨rfl, hbd4, hbe4, hoth4, hsz4⟩
      have hC4 := kept_box hoth4 (by decide) nC HC.out
      have hD4 := kept_box hoth4 (by decide) nD HD.out
      have hE4 := kept_box hoth4 (by decide) nE HE.out
      have c41 := hC4.cell
      have c42 := hD4.cell
      have c43 := hE4.cell
      have K4 := Lib.hid (K0.out.trans (KeptH.of (N := E) (c := D) hoth4 hsz4))
      have L4 := Lib.hid (L0.out.trans hbe4)
      have hb3 := bwrite_k B b (Lib.byteCells (acc ++ [32])) x w4 hbd4 (by rw [Lib.byteCells_length, List.length_append]; show _ + 1 + _ ≤ _; omega) (by omega)
      rw [show Lib.byteCells (acc ++ [32]) ++ Lib.strCells x = Lib.byteCells (acc ++ [32] ++ x.data.toList) by rw [Lib.byteCells_append (acc ++ [32])]; rfl] at hb3
      have HC4 := Lib.hid hC4
      have HD4 := Lib.hid hD4
      have HE4 := Lib.hid hE4
      clear hb2 hbd4 hbe4 hoth4 hC4 hD4 hE4
      go_wp2_with (go_at_call 74; refine hb3.mono ?_)
      rintro e w6 ⟨rfl, hbd6, hbe6, hoth6, hsz6⟩
      have hC6 := kept_box hoth6 (by decide) nC HC4.out
      have hD6 := kept_box hoth6 (by decide) nD HD4.out
      have hE6 := kept_box hoth6 (by decide) nE HE4.out
      have c61 := hD6.cell
      have c62 := hE6.cell
      have f61 := hD6.frozen
      have f62 := hE6.frozen
      have hE7 : Boxed (w6.setCell ⟨D, 0, none⟩ (.int .i64 ((k : Int) + (1 + (x.size : Int))))) E 4 (.bool true) := hE6.other nDE _
      have f71 := hE7.frozen
      have c71 := hE7.cell
      have hD8 : Boxed ((w6.setCell ⟨D, 0, none⟩ (.int .i64 ((k : Int) + (1 + (x.size : Int))))).setCell ⟨E, 0, none⟩ (.bool false)) D 3 (.int .i64 ((k : Int) + (1 + (x.size : Int)))) := (hD6.set _).other (fun e => nDE e.symm) _
      have c81 := hD8.cell
      have K6 := Lib.hid (((K4.out.trans (KeptH.of (N := E) (c := D) hoth6 hsz6)).set (.int .i64 ((k : Int) + (1 + (x.size : Int))))).setN (.bool false))
      have L6 := Lib.hid (((L4.out.trans hbe6).setCell (p := ⟨D, 0, none⟩) hBD (.int .i64 ((k : Int) + (1 + (x.size : Int))))).setCell (p := ⟨E, 0, none⟩) hBE (.bool false))
      have B6 := Lib.hid (builder_box (t := 4) (by decide) (.bool false) (builder_box (t := 3) (by decide) (.int .i64 ((k : Int) + (1 + (x.size : Int)))) hbd6 ⟨_, hD6⟩) ⟨_, hE7⟩)
      have C6 := Lib.hid ((hC6.other nCD (.int .i64 ((k : Int) + (1 + (x.size : Int))))).other nCE (.bool false))
      have E8 := Lib.hid (hE7.set (.bool false))
      have D8 := Lib.hid hD8
      clear hb3 hbd6 hbe6 hoth6 hC6 hD6 hE6 hE7 hD8 hsz4 hsz6
      go_wp2
      go_ret
      exact ⟨rfl, B6.out, E8.out, D8.out, C6.out, L6.out, K6.out⟩
    | false =>
      by_cases hx0 : x.data.toList = []
      · have hem : x.toList.isEmpty = true := by rw [he0, decide_eq_true hx0]
        clear e1 e2 hbk hC hD hE hxl he0 hx0
        go_enter Tryz.func177, Tryz.ntmps177
        have hb2 := bwrite_k B b (Lib.byteCells (acc)) ⟨#[32]⟩ w h (by rw [Lib.byteCells_length]; show _ + 1 ≤ _; omega) hBw
        rw [show Lib.byteCells (acc) ++ Lib.strCells ⟨#[32]⟩ = Lib.byteCells (acc ++ [32]) by rw [Lib.byteCells_append (acc)]; rfl] at hb2
        go_wp2_with (go_at_call 74; refine hb2.mono ?_)
        rintro e w4 ⟨rfl, hbd4, hbe4, hoth4, hsz4⟩
        have hC4 := kept_box hoth4 (by decide) nC HC.out
        have hD4 := kept_box hoth4 (by decide) nD HD.out
        have hE4 := kept_box hoth4 (by decide) nE HE.out
        have c41 := hC4.cell
        have c42 := hD4.cell
        have c43 := hE4.cell
        have K4 := Lib.hid (K0.out.trans (KeptH.of (N := E) (c := D) hoth4 hsz4))
        have L4 := Lib.hid (L0.out.trans hbe4)
        have hb3 := bwrite_k B b (Lib.byteCells (acc ++ [32])) x w4 hbd4 (by rw [Lib.byteCells_length, List.length_append]; show _ + 1 + _ ≤ _; omega) (by omega)
        rw [show Lib.byteCells (acc ++ [32]) ++ Lib.strCells x = Lib.byteCells (acc ++ [32] ++ x.data.toList) by rw [Lib.byteCells_append (acc ++ [32])]; rfl] at hb3
        have HC4 := Lib.hid hC4
        have HD4 := Lib.hid hD4
        have HE4 := Lib.hid hE4
        clear hb2 hbd4 hbe4 hoth4 hC4 hD4 hE4
        go_wp2_with (go_at_call 74; refine hb3.mono ?_)
        rintro e w6 ⟨rfl, hbd6, hbe6, hoth6, hsz6⟩
        have hC6 := kept_box hoth6 (by decide) nC HC4.out
        have hD6 := kept_box hoth6 (by decide) nD HD4.out
        have hE6 := kept_box hoth6 (by decide) nE HE4.out
        have c61 := hD6.cell
        have c62 := hE6.cell
        have f61 := hD6.frozen
        have f62 := hE6.frozen
        have hE7 : Boxed (w6.setCell ⟨D, 0, none⟩ (.int .i64 ((k : Int) + (1 + (x.size : Int))))) E 4 (.bool false) := hE6.other nDE _
        have f71 := hE7.frozen
        have c71 := hE7.cell
        have hD8 : Boxed ((w6.setCell ⟨D, 0, none⟩ (.int .i64 ((k : Int) + (1 + (x.size : Int))))).setCell ⟨E, 0, none⟩ (.bool false)) D 3 (.int .i64 ((k : Int) + (1 + (x.size : Int)))) := (hD6.set _).other (fun e => nDE e.symm) _
        have c81 := hD8.cell
        have K6 := Lib.hid (((K4.out.trans (KeptH.of (N := E) (c := D) hoth6 hsz6)).set (.int .i64 ((k : Int) + (1 + (x.size : Int))))).setN (.bool false))
        have L6 := Lib.hid (((L4.out.trans hbe6).setCell (p := ⟨D, 0, none⟩) hBD (.int .i64 ((k : Int) + (1 + (x.size : Int))))).setCell (p := ⟨E, 0, none⟩) hBE (.bool false))
        have B6 := Lib.hid (builder_box (t := 4) (by decide) (.bool false) (builder_box (t := 3) (by decide) (.int .i64 ((k : Int) + (1 + (x.size : Int)))) hbd6 ⟨_, hD6⟩) ⟨_, hE7⟩)
        have C6 := Lib.hid ((hC6.other nCD (.int .i64 ((k : Int) + (1 + (x.size : Int))))).other nCE (.bool false))
        have E8 := Lib.hid (hE7.set (.bool false))
        have D8 := Lib.hid hD8
        clear hb3 hbd6 hbe6 hoth6 hC6 hD6 hE6 hE7 hD8 hsz4 hsz6
        go_wp2
        go_ret
        exact ⟨rfl, B6.out, E8.out, D8.out, C6.out, L6.out, K6.out⟩
      · have hem : x.toList.isEmpty = false := by rw [he0, decide_eq_false hx0]
        have h78 : decide ((78 : Int) < (k : Int) + (1 + (x.size : Int))) = false := by
          rw [decide_eq_true hx0, hxl] at hbk
          have : ¬ 78 < k + (1 + x.size) := by simpa using hbk
          exact decide_eq_false (by omega)
        clear e1 e2 hbk hC hD hE hxl he0 hx0
        go_enter Tryz.func177, Tryz.ntmps177
        have hb2 := bwrite_k B b (Lib.byteCells (acc)) ⟨#[32]⟩ w h (by rw [Lib.byteCells_length]; show _ + 1 ≤ _; omega) hBw
        rw [show Lib.byteCells (acc) ++ Lib.strCells ⟨#[32]⟩ = Lib.byteCells (acc ++ [32]) by rw [Lib.byteCells_append (acc)]; rfl] at hb2
        go_wp2_with (go_at_call 74; refine hb2.mono ?_)
        rintro e w4 ⟨rfl, hbd4, hbe4, hoth4, hsz4⟩
        have hC4 := kept_box hoth4 (by decide) nC HC.out
        have hD4 := kept_box hoth4 (by decide) nD HD.out
        have hE4 := kept_box hoth4 (by decide) nE HE.out
        have c41 := hC4.cell
        have c42 := hD4.cell
        have c43 := hE4.cell
        have K4 := Lib.hid (K0.out.trans (KeptH.of (N := E) (c := D) hoth4 hsz4))
        have L4 := Lib.hid (L0.out.trans hbe4)
        have hb3 := bwrite_k B b (Lib.byteCells (acc ++ [32])) x w4 hbd4 (by rw [Lib.byteCells_length, List.length_append]; show _ + 1 + _ ≤ _; omega) (by omega)
        rw [show Lib.byteCells (acc ++ [32]) ++ Lib.strCells x = Lib.byteCells (acc ++ [32] ++ x.data.toList) by rw [Lib.byteCells_append (acc ++ [32])]; rfl] at hb3
        have HC4 := Lib.hid hC4
        have HD4 := Lib.hid hD4
        have HE4 := Lib.hid hE4
        clear hb2 hbd4 hbe4 hoth4 hC4 hD4 hE4
        go_wp2_with (go_at_call 74; refine hb3.mono ?_)
        rintro e w6 ⟨rfl, hbd6, hbe6, hoth6, hsz6⟩
        have hC6 := kept_box hoth6 (by decide) nC HC4.out
        have hD6 := kept_box hoth6 (by decide) nD HD4.out
        have hE6 := kept_box hoth6 (by decide) nE HE4.out
        have c61 := hD6.cell
        have c62 := hE6.cell
        have f61 := hD6.frozen
        have f62 := hE6.frozen
        have hE7 : Boxed (w6.setCell ⟨D, 0, none⟩ (.int .i64 ((k : Int) + (1 + (x.size : Int))))) E 4 (.bool false) := hE6.other nDE _
        have f71 := hE7.frozen
        have c71 := hE7.cell
        have hD8 : Boxed ((w6.setCell ⟨D, 0, none⟩ (.int .i64 ((k : Int) + (1 + (x.size : Int))))).setCell ⟨E, 0, none⟩ (.bool false)) D 3 (.int .i64 ((k : Int) + (1 + (x.size : Int)))) := (hD6.set _).other (fun e => nDE e.symm) _
        have c81 := hD8.cell
        have K6 := Lib.hid (((K4.out.trans (KeptH.of (N := E) (c := D) hoth6 hsz6)).set (.int .i64 ((k : Int) + (1 + (x.size : Int))))).setN (.bool false))
        have L6 := Lib.hid (((L4.out.trans hbe6).setCell (p := ⟨D, 0, none⟩) hBD (.int .i64 ((k : Int) + (1 + (x.size : Int))))).setCell (p := ⟨E, 0, none⟩) hBE (.bool false))
        have B6 := Lib.hid (builder_box (t := 4) (by decide) (.bool false) (builder_box (t := 3) (by decide) (.int .i64 ((k : Int) + (1 + (x.size : Int)))) hbd6 ⟨_, hD6⟩) ⟨_, hE7⟩)
        have C6 := Lib.hid ((hC6.other nCD (.int .i64 ((k : Int) + (1 + (x.size : Int))))).other nCE (.bool false))
        have E8 := Lib.hid (hE7.set (.bool false))
        have D8 := Lib.hid hD8
        clear hb3 hbd6 hbe6 hoth6 hC6 hD6 hE6 hE7 hD8 hsz4 hsz6
        go_wp2
        go_ret
        exact ⟨rfl, B6.out, E8.out, D8.out, C6.out, L6.out, K6.out⟩
  | true =>
    have e1 : acc ++ pieceH fr k x.data.toList = acc ++ [13, 10] ++ [32] ++ x.data.toList := by unfold pieceH; rw [hbk, if_pos rfl]; simp
    have e2 : (lineH fr k x.data.toList : Int) = 1 + (x.size : Int) := by unfold lineH; rw [hbk, if_pos rfl, hxl]; push_cast; omega
    rw [e1, show ((lineH fr k x.data.toList : Nat) : Int) = _ from e2]
    unfold brkH at hbk
    simp only [Bool.and_eq_true, Bool.not_eq_true', decide_eq_true_eq] at hbk
    obtain ⟨rfl, hx0, h78'⟩ := hbk
    have hem : x.toList.isEmpty = false := by rw [he0, decide_eq_false hx0]
    have h78 : decide ((78 : Int) < (k : Int) + (1 + (x.size : Int))) = true := decide_eq_true (by rw [hxl] at h78'; omega)
    have hb1 := bwrite_k B b (Lib.byteCells acc) ⟨#[13, 10]⟩ w h (by rw [Lib.byteCells_length]; show _ + 2 ≤ _; omega) hBw
    rw [show Lib.byteCells acc ++ Lib.strCells ⟨#[13, 10]⟩ = Lib.byteCells (acc ++ [13, 10]) by rw [Lib.byteCells_append]; rfl] at hb1
    clear e1 e2 hC hD hE hxl he0 hx0 h78'
    go_enter Tryz.func177, Tryz.ntmps177
    go_wp2_with (go_at_call 74; refine hb1.mono ?_)
    rintro e w2 ⟨rfl, hbd2, hbe2, hoth2, hsz2⟩
    have hC2 := kept_box hoth2 (by decide) nC HC.out
    have hD2 := kept_box hoth2 (by decide) nD HD.out
    have hE2 := kept_box hoth2 (by decide) nE HE.out
    have c21 := hD2.cell
    have f21 := hD2.frozen
    have hC3 : Boxed (w2.setCell ⟨D, 0, none⟩ (.int .i64 0)) C 111 (.pointer (some ⟨b, 0, none⟩)) := hC2.other nCD _
    have hE3 : Boxed (w2.setCell ⟨D, 0, none⟩ (.int .i64 0)) E 4 (.bool false) := hE2.other nDE _
    have hD3 : Boxed (w2.setCell ⟨D, 0, none⟩ (.int .i64 0)) D 3 (.int .i64 0) := hD2.set _
    have c31 := hC3.cell
    have c32 := hD3.cell
    have hbd3 := builder_box (t := 3) (by decide) (.int .i64 0) hbd2 ⟨_, hD2⟩
    have K2 := Lib.hid ((K0.out.trans (KeptH.of (N := E) (c := D) hoth2 hsz2)).set (.int .i64 0))
    have L2 := Lib.hid ((L0.out.trans hbe2).setCell (p := ⟨D, 0, none⟩) hBD (.int .i64 0))
    have hs3 : B ≤ (w2.setCell ⟨D, 0, none⟩ (.int .i64 0)).heap.size := by
      rw [show (w2.setCell ⟨D, 0, none⟩ (.int .i64 0)).heap.size = w2.heap.size by simp [World.setCell]]
      omega
    have HC3 := Lib.hid hC3
    have HD3 := Lib.hid hD3
    have HE3 := Lib.hid hE3
    clear hb1 hbd2 hbe2 hoth2 hC2 hD2 hE2
    have hb2 := bwrite_k B b (Lib.byteCells (acc ++ [13, 10])) ⟨#[32]⟩ (w2.setCell ⟨D, 0, none⟩ (.int .i64 0)) hbd3 (by rw [Lib.byteCells_length]; show _ + 1 ≤ _; simp only [List.length_append]; show _ + 2 + _ ≤ _; omega) hs3
    rw [show Lib.byteCells (acc ++ [13, 10]) ++ Lib.strCells ⟨#[32]⟩ = Lib.byteCells (acc ++ [13, 10] ++ [32]) by rw [Lib.byteCells_append (acc ++ [13, 10])]; rfl] at hb2
    go_wp2_with (go_at_call 74; refine hb2.mono ?_)
    rintro e w4 ⟨rfl, hbd4, hbe4, hoth4, hsz4⟩
    have hC4 := kept_box hoth4 (by decide) nC HC3.out
    have hD4 := kept_box hoth4 (by decide) nD HD3.out
    have hE4 := kept_box hoth4 (by decide) nE HE3.out
    have c41 := hC4.cell
    have c42 := hD4.cell
    have c43 := hE4.cell
    have K4 := Lib.hid (K2.out.trans (KeptH.of (N := E) (c := D) hoth4 hsz4))
    have L4 := Lib.hid (L2.out.trans hbe4)
    have hb3 := bwrite_k B b (Lib.byteCells (acc ++ [13, 10] ++ [32])) x w4 hbd4 (by rw [Lib.byteCells_length, List.length_append]; show _ + 1 + _ ≤ _; simp only [List.length_append]; show _ + 2 + _ ≤ _; omega) (by omega)
    rw [show Lib.byteCells (acc ++ [13, 10] ++ [32]) ++ Lib.strCells x = Lib.byteCells (acc ++ [13, 10] ++ [32] ++ x.data.toList) by rw [Lib.byteCells_append (acc ++ [13, 10] ++ [32])]; rfl] at hb3
    have HC4 := Lib.hid hC4
    have HD4 := Lib.hid hD4
    have HE4 := Lib.hid hE4
    clear hb2 hbd4 hbe4 hoth4 hC4 hD4 hE4
    go_wp2_with (go_at_call 74; refine hb3.mono ?_)
    rintro e w6 ⟨rfl, hbd6, hbe6, hoth6, hsz6⟩
    have hC6 := kept_box hoth6 (by decide) nC HC4.out
    have hD6 := kept_box hoth6 (by decide) nD HD4.out
    have hE6 := kept_box hoth6 (by decide) nE HE4.out
    have c61 := hD6.cell
    have c62 := hE6.cell
    have f61 := hD6.frozen
    have f62 := hE6.frozen
    have hE7 : Boxed (w6.setCell ⟨D, 0, none⟩ (.int .i64 (1 + (x.size : Int)))) E 4 (.bool false) := hE6.other nDE _
    have f71 := hE7.frozen
    have c71 := hE7.cell
    have hD8 : Boxed ((w6.setCell ⟨D, 0, none⟩ (.int .i64 (1 + (x.size : Int)))).setCell ⟨E, 0, none⟩ (.bool false)) D 3 (.int .i64 (1 + (x.size : Int))) := (hD6.set _).other (fun e => nDE e.symm) _
    have c81 := hD8.cell
    have K6 := Lib.hid (((K4.out.trans (KeptH.of (N := E) (c := D) hoth6 hsz6)).set (.int .i64 (1 + (x.size : Int)))).setN (.bool false))
    have L6 := Lib.hid (((L4.out.trans hbe6).setCell (p := ⟨D, 0, none⟩) hBD (.int .i64 (1 + (x.size : Int)))).setCell (p := ⟨E, 0, none⟩) hBE (.bool false))
    have B6 := Lib.hid (builder_box (t := 4) (by decide) (.bool false) (builder_box (t := 3) (by decide) (.int .i64 (1 + (x.size : Int))) hbd6 ⟨_, hD6⟩) ⟨_, hE7⟩)
    have C6 := Lib.hid ((hC6.other nCD (.int .i64 (1 + (x.size : Int)))).other nCE (.bool false))
    have E8 := Lib.hid (hE7.set (.bool false))
    have D8 := Lib.hid hD8
    clear hb3 hbd6 hbe6 hoth6 hC6 hD6 hE6 hE7 hD8 hsz4 hsz6
    go_wp2
    go_ret
    exact ⟨rfl, B6.out, E8.out, D8.out, C6.out, L6.out, K6.out⟩
end Go.Proofs.YtjikghndoklajaaGreatDoor
