/-
  Texts of this proof, put together: Awake14.
-/
import Derived.Test.YtjikghndoklajaaGreatDoorZ48
namespace Go.Proofs.YtjikghndoklajaaGreatDoor
open Go.RowKit

theorem gprint_any (B : Nat) (m : Int) (p : TreeM) (fv pv rv : Value) (w : World) (h : TreeAt w B p fv pv rv) (hB : B ≤ w.heap.size) (ht : PowIs w) (hm : w.cell? ⟨0, 0, none⟩ = some (.int .i64 m)) (hf : FormD p) (hl : ∀ q ∈ nodesM p, LimP 90000 q) (hg : goodM 4 p) (hc : countM p ≤ 16) :
    Calls Tryz.prog 6 #[partV p fv pv rv] w fun e w' => e = .returned (.tuple #[.string (textQ (layD p).1.2), .int .i64 (layD p).2]) ∧ Below w.heap.size w w' :=
  gprint_by p fv pv rv _ _ w h.slices fun W hW => (glaytree_any B m p fv pv rv W (h.below hW hB) (Nat.le_trans hB hW.size) (pow_below ht hW) ((hW.cell (p := ⟨0, 0, none⟩) (cell_ltP hm)).trans hm) hf hl hg hc).mono fun _ _ h => by
    obtain ⟨s0, i0, e0, S1, S2, s3, i3, e3, S4, s5, i5, e5, S6, co, rfl, hx⟩ := lay_shape h
    obtain ⟨rfl, rfl⟩ := laid_text hf hx.out
    exact ⟨_, _, _, _, _, _, _, _, _, _, _, _, rfl, h.1⟩
theorem gprint_bad (B : Nat) (p : TreeM) (fv pv rv : Value) (w : World) (h : TreeAt w B p fv pv rv) (hB : B ≤ w.heap.size) (hr : rightC p.typ = false) (hg : goodM 4 p) (hc : countM p ≤ 16) :
    Calls Tryz.prog 6 #[partV p fv pv rv] w fun e w' => e = .returned (.tuple #[.string ⟨#[]⟩, .int .i64 2]) ∧ Below w.heap.size w w' :=
  gprint_by p fv pv rv _ _ w h.slices fun W hW => (glaytree_bad B p fv pv rv W (h.below hW hB) (Nat.le_trans hB hW.size) hr hg hc).mono fun _ _ ⟨h1, h2⟩ => ⟨_, _, _, _, _, _, _, _, _, _, _, _, h1, h2⟩

def leafG : TreeM := .mk [([84, 111], [97, 64, 98])] ([116, 101, 120, 116], [112, 108, 97, 105, 110], []) [97, 61, 98] []
def multG : TreeM := .mk [] (multiM, [109, 105, 120, 101, 100], []) [] [leafG]
theorem leafg_lay : (layD leafG).2 = 0 ∧ (layD leafG).1.1.fields.length = 3 ∧ (layD leafG).1.1.typ = leafG.typ ∧ (layD leafG).1.1.body = leafG.body := by decide +kernel
theorem leafg_text : textQ (layD leafG).1.2 = (⟨([84, 111, 58, 32, 97, 64, 98, 13, 10, 67, 111, 110, 116, 101, 110, 116, 45, 84, 121, 112, 101, 58, 32, 116, 101, 120, 116, 47, 112, 108, 97, 105, 110, 13, 10, 67, 111, 110, 116, 101, 110, 116, 45].append [84, 114, 97, 110, 115, 102, 101, 114, 45, 69, 110, 99, 111, 100, 105, 110, 103, 58, 32, 113, 117, 111, 116, 101, 100, 45, 112, 114, 105, 110, 116, 97, 98, 108, 101, 13, 10, 13, 10, 97, 61, 51, 68, 98]).toArray⟩ : ByteArray) := by decide +kernel
theorem multg_lay : (layD multG).2 = 0 := by decide +kernel
theorem multg_list : (layD multG).1.2 = ([67, 111, 110, 116, 101, 110, 116, 45, 84, 121, 112, 101, 58, 32, 109, 117, 108, 116, 105, 112, 97, 114, 116, 47, 109, 105, 120, 101, 100, 59, 32, 98, 111, 117, 110, 100, 97, 114, 121, 61, 34, 61, 95, 48, 34, 13, 10, 13, 10, 45, 45, 61, 95, 48, 13, 10] ++ ([84, 111, 58, 32, 97, 64, 98, 13, 10, 67, 111, 110, 116, 101, 110, 116, 45, 84, 121, 112, 101, 58, 32, 116, 101, 120, 116, 47, 112, 108, 97, 105, 110, 13, 10, 67, 111, 110, 116, 101, 110, 116, 45].append [84, 114, 97, 110, 115, 102, 101, 114, 45, 69, 110, 99, 111, 100, 105, 110, 103, 58, 32, 113, 117, 111, 116, 101, 100, 45, 112, 114, 105, 110, 116, 97, 98, 108, 101, 13, 10, 13, 10, 97, 61, 51, 68, 98]) ++ [13, 10, 45, 45, 61, 95, 48, 45, 45, 13, 10] : List UInt8) := by decide +kernel
theorem multg_text : textQ (layD multG).1.2 = (⟨#[67, 111, 110, 116, 101, 110, 116, 45, 84, 121, 112, 101, 58, 32, 109, 117, 108, 116, 105, 112, 97, 114, 116, 47, 109, 105, 120, 101, 100, 59, 32, 98, 111, 117, 110, 100, 97, 114, 121, 61, 34, 61, 95, 48, 34, 13, 10, 13, 10, 45, 45, 61, 95, 48, 13, 10]⟩ ++ (⟨([84, 111, 58, 32, 97, 64, 98, 13, 10, 67, 111, 110, 116, 101, 110, 116, 45, 84, 121, 112, 101, 58, 32, 116, 101, 120, 116, 47, 112, 108, 97, 105, 110, 13, 10, 67, 111, 110, 116, 101, 110, 116, 45].append [84, 114, 97, 110, 115, 102, 101, 114, 45, 69, 110, 99, 111, 100, 105, 110, 103, 58, 32, 113, 117, 111, 116, 101, 100, 45, 112, 114, 105, 110, 116, 97, 98, 108, 101, 13, 10, 13, 10, 97, 61, 51, 68, 98]).toArray⟩ : ByteArray) ++ ⟨#[13, 10, 45, 45, 61, 95, 48, 45, 45, 13, 10]⟩ : ByteArray) := by
  rw [multg_list]
  apply ByteArray.ext
  rw [ByteArray.data_append, ByteArray.data_append]
  rfl
theorem leafg_lim : LimP 90000 leafG := ⟨by decide, by decide, by decide +kernel, by decide⟩
theorem multg_lim : LimP 90000 multG := ⟨by decide, by decide, by decide +kernel, by decide⟩
theorem leafg_form : FormD leafG := by
  unfold leafG FormD FormsD
  refine ⟨by decide +kernel, by decide, fun _ => by decide, fun h => absurd rfl h, trivial⟩
theorem multg_form : FormD multG := by
  unfold multG FormD FormsD FormsD
  exact ⟨by decide +kernel, by decide, (fun h => (by cases h)), fun _ => ⟨rfl, rfl, .inr (by decide)⟩, leafg_form, trivial⟩
theorem leafg_good : ∀ d, goodM d leafG
  | 0 => by
    unfold goodM
    exact ⟨by decide, rfl⟩
  | d + 1 => by
    unfold goodM
    exact .inl ⟨by decide, rfl⟩
theorem multg_good : goodM 4 multG := by
  unfold goodM
  exact .inr ⟨rfl, by decide, rfl, fun q hq => by rw [List.mem_singleton.1 hq]; exact leafg_good 3⟩
theorem nil_good : goodM 4 nilM := by
  unfold goodM
  exact .inl ⟨by decide, rfl⟩
theorem leafg_nodes : ∀ q ∈ nodesM leafG, LimP 90000 q := fun q hq => by
  rw [nodes_parts] at hq
  rcases List.mem_cons.1 hq with rfl | hq
  · exact leafg_lim
  · cases hq
theorem multg_nodes : ∀ q ∈ nodesM multG, LimP 90000 q := fun q hq => by
  rw [nodes_parts] at hq
  rcases List.mem_cons.1 hq with rfl | hq
  · exact multg_lim
  · obtain ⟨r, hr, hq⟩ := nodess_of hq
    obtain rfl := List.mem_singleton.1 hr
    exact leafg_nodes q hq

set_option maxRecDepth 100000 in
set_option maxHeartbeats 8000000 in
theorem awake14_any (m : Int) (w : World) (ht : PowIs w) (hm : w.cell? ⟨0, 0, none⟩ = some (.int .i64 m)) :
    Calls Tryz.prog 4 #[] w fun e w' => e = .returned (.bool true) ∧ Below w.heap.size w w' := by
  have HM : Hid (∀ W, Below w.heap.size w W → PowIs W ∧ W.cell? ⟨0, 0, none⟩ = some (.int .i64 m)) := Lib.hid fun W hW => ⟨pow_below ht hW, bound_abide hm hW⟩
  obtain ⟨wa, hwa⟩ : ∃ wa, w.alloc (.cells #[.string ⟨#[84, 111]⟩, .string ⟨#[97, 64, 98]⟩] 38) = wa := ⟨_, rfl⟩
  have za : wa.heap.size = w.heap.size + 1 := by rw [← hwa]; simp
  have ba : Below w.heap.size w wa := by rw [← hwa]; exact (Below.refl _ _).alloc (Nat.le_refl _) _
  obtain ⟨wb, hwb⟩ : ∃ wb, wa.alloc (.cells #[.slice (some ⟨w.heap.size, 0, none⟩) 1 1, .string ⟨#[116, 101, 120, 116]⟩, .string ⟨#[112, 108, 97, 105, 110]⟩, .slice none 0 0, .string ⟨#[97, 61, 98]⟩, .slice none 0 0] 29) = wb := ⟨_, rfl⟩
  have bab : Below wa.heap.size wa wb := by rw [← hwb]; exact (Below.refl _ _).alloc (Nat.le_refl _) _
  have fb : wb.heap[w.heap.size]? = some (.cells #[.string ⟨#[84, 111]⟩, .string ⟨#[97, 64, 98]⟩] 38 (0, 0)) := (bab.block _ (by omega)).trans (by rw [← hwa]; exact heap_alloc_new w _)
  have qb : PrtAt wb (w.heap.size + 1) (.slice (some ⟨w.heap.size, 0, none⟩) 1 1) (.string ⟨#[116, 101, 120, 116]⟩) (.string ⟨#[112, 108, 97, 105, 110]⟩) (.slice none 0 0) (.string ⟨#[97, 61, 98]⟩) (.slice none 0 0) := by
    have h := prt_new wa (.slice (some ⟨w.heap.size, 0, none⟩) 1 1) (.string ⟨#[116, 101, 120, 116]⟩) (.string ⟨#[112, 108, 97, 105, 110]⟩) (.slice none 0 0) (.string ⟨#[97, 61, 98]⟩) (.slice none 0 0)
    rw [hwb, za] at h
    exact h
  have bb : Below w.heap.size w wb := ba.trans (bab.mono ba.size)
  have zb : wb.heap.size = w.heap.size + 2 := by rw [← hwb]; simp [za]
  have HT : Hid (∀ W, Below wb.heap.size wb W → TreeAt W W.heap.size leafG (.slice (some ⟨w.heap.size, 0, none⟩) 1 1) (.slice none 0 0) (.slice none 0 0)) := Lib.hid fun W hW => by
    have hz := hW.size
    have h0 := (hW.block w.heap.size (by omega)).trans fb
    refine ⟨⟨some ⟨w.heap.size, 0, none⟩, 1, rfl, Nat.le_refl _, by decide, fun i hi => ⟨w.heap.size, 0, rfl, by show w.heap.size < W.heap.size; omega, ?_, ?_⟩⟩, ParsP.nil _ _, PartsP.nil _ _⟩
    · obtain rfl : i = 0 := by have : i < 1 := hi; omega
      exact Lib.cell_of_heap h0 0
    · obtain rfl : i = 0 := by have : i < 1 := hi; omega
      exact Lib.cell_of_heap h0 1
  have hpr : Hid (∀ W, Below wb.heap.size wb W → Calls Tryz.prog 6 #[.agg #[.slice (some ⟨w.heap.size, 0, none⟩) 1 1, .string ⟨#[116, 101, 120, 116]⟩, .string ⟨#[112, 108, 97, 105, 110]⟩, .slice none 0 0, .string ⟨#[97, 61, 98]⟩, .slice none 0 0]] W fun e w' => e = .returned (.tuple #[.string (⟨([84, 111, 58, 32, 97, 64, 98, 13, 10, 67, 111, 110, 116, 101, 110, 116, 45, 84, 121, 112, 101, 58, 32, 116, 101, 120, 116, 47, 112, 108, 97, 105, 110, 13, 10, 67, 111, 110, 116, 101, 110, 116, 45].append [84, 114, 97, 110, 115, 102, 101, 114, 45, 69, 110, 99, 111, 100, 105, 110, 103, 58, 32, 113, 117, 111, 116, 101, 100, 45, 112, 114, 105, 110, 116, 97, 98, 108, 101, 13, 10, 13, 10, 97, 61, 51, 68, 98]).toArray⟩ : ByteArray), .int .i64 0]) ∧ Below W.heap.size W w') := Lib.hid fun W hW => by
    have hw := bb.trans (hW.mono bb.size)
    have h := gprint_any W.heap.size m leafG _ _ _ W (HT.out W hW) (Nat.le_refl _) (HM.out W hw).1 (HM.out W hw).2 leafg_form leafg_nodes (leafg_good 4) (by decide +kernel)
    rw [leafg_text, leafg_lay.1] at h
    exact h
  have hca : Hid (∀ W, Below wb.heap.size wb W → Calls Tryz.prog 8 #[.agg #[.slice (some ⟨w.heap.size, 0, none⟩) 1 1, .string ⟨#[116, 101, 120, 116]⟩, .string ⟨#[112, 108, 97, 105, 110]⟩, .slice none 0 0, .string ⟨#[97, 61, 98]⟩, .slice none 0 0]] W fun e w' => ∃ a5 q5 a6 n6 q6 a7 n7 q7, e = .returned (.tuple #[.agg #[.slice a5 3 q5, .string ⟨#[116, 101, 120, 116]⟩, .string ⟨#[112, 108, 97, 105, 110]⟩, .slice a6 n6 q6, .string ⟨#[97, 61, 98]⟩, .slice a7 n7 q7], .int .i64 0]) ∧ Below W.heap.size W w') := Lib.hid fun W hW => by
    have hw := bb.trans (hW.mono bb.size)
    refine (gcanon_by leafG _ _ _ _ W (HT.out W hW).slices leafg_lay.1 rfl fun V hV => ?_).mono ?_
    · have hv := hw.trans (hV.mono hw.size)
      exact glaytree_any V.heap.size m leafG _ _ _ V (HT.out V (hW.trans (hV.mono hW.size))) (Nat.le_refl _) (HM.out V hv).1 (HM.out V hv).2 leafg_form leafg_nodes (leafg_good 4) (by decide +kernel)
    · rintro e w' ⟨fv, pv, rv, rfl, ht, hb⟩
      obtain ⟨_, ⟨a6, n6, q6, rfl⟩, ⟨a7, n7, q7, rfl⟩⟩ := ht.slices
      obtain ⟨a5, q5, rfl, _⟩ := ht.f.slice
      obtain ⟨_, l2, l3, l4⟩ := leafg_lay
      refine ⟨a5, q5, a6, n6, q6, a7, n7, q7, ?_, hb⟩
      unfold partV
      rw [l2, l3, l4]
      rfl
  have hem : Hid (∀ W, Calls Tryz.prog 6 #[.agg #[.slice none 0 0, .string ⟨#[]⟩, .string ⟨#[]⟩, .slice none 0 0, .string ⟨#[]⟩, .slice none 0 0]] W fun e w' => e = .returned (.tuple #[.string ⟨#[]⟩, .int .i64 2]) ∧ Below W.heap.size W w') := Lib.hid fun W =>
    gprint_bad W.heap.size nilM (.slice none 0 0) (.slice none 0 0) (.slice none 0 0) W (TreeP.nil _ _) (Nat.le_refl _) (by decide +kernel) nil_good (by decide +kernel)
  have K1 := Lib.hid (And.intro bb (And.intro fb (And.intro qb zb)))
  have hp1 := hpr.out wb (Below.refl _ _)
  rw [← hwb] at hp1
  have HWB := Lib.hid hwb
  obtain ⟨y0, y1, y2, y3, y4, y5, _⟩ := qb.cells
  clear ba bab fb qb bb hwb
  go_enter Tryz.func4, Tryz.ntmps4
  go_wp2_with fail
  refine hp1.mono ?_
  rintro e w2 ⟨rfl, hb2⟩
  rw [HWB.out] at hb2
  have h1 := hca.out w2 hb2
  have K2 := Lib.hid hb2
  clear hp1 y0 y1 y2 y3 y4 y5 hb2
  obtain ⟨y0, y1, y2, y3, y4, y5, _⟩ := (K1.out.2.2.1.below K2.out).cells
  go_wp2_with fail
  refine h1.mono ?_
  rintro e w3 ⟨a5, q5, a6, n6, q6, a7, n7, q7, rfl, hb3⟩
  have h3 := K2.out.trans (hb3.mono K2.out.size)
  obtain ⟨w4, hw4⟩ : ∃ W, w3.alloc (.cells #[.slice a5 3 q5, .string ⟨#[116, 101, 120, 116]⟩, .string ⟨#[112, 108, 97, 105, 110]⟩, .slice a6 n6 q6, .string ⟨#[97, 61, 98]⟩, .slice a7 n7 q7] 29) = W := ⟨_, rfl⟩
  obtain ⟨w5, hw5⟩ : ∃ W, w4.alloc (.cells #[.slice (some ⟨w.heap.size, 0, none⟩) 1 1, .string ⟨#[116, 101, 120, 116]⟩, .string ⟨#[112, 108, 97, 105, 110]⟩, .slice none 0 0, .string ⟨#[97, 61, 98]⟩, .slice none 0 0] 29) = W := ⟨_, rfl⟩
  obtain ⟨w6, hw6⟩ : ∃ W, w5.alloc (.cells #[.slice none 0 0, .string ⟨#[109, 117, 108, 116, 105, 112, 97, 114, 116]⟩, .string ⟨#[109, 105, 120, 101, 100]⟩, .slice none 0 0, .string ⟨#[]⟩, .slice (some ⟨w4.heap.size, 0, none⟩) 1 1] 29) = W := ⟨_, rfl⟩
  have b4 : Below w3.heap.size w3 w4 := by rw [← hw4]; exact (Below.refl _ _).alloc (Nat.le_refl _) _
  have b5 : Below w4.heap.size w4 w5 := by rw [← hw5]; exact (Below.refl _ _).alloc (Nat.le_refl _) _
  have b6 : Below w5.heap.size w5 w6 := by rw [← hw6]; exact (Below.refl _ _).alloc (Nat.le_refl _) _
  have z4 : w4.heap.size = w3.heap.size + 1 := by rw [← hw4]; simp
  have z5 : w5.heap.size = w4.heap.size + 1 := by rw [← hw5]; simp
  have q4 : PrtAt w4 w3.heap.size (.slice a5 3 q5) (.string ⟨#[116, 101, 120, 116]⟩) (.string ⟨#[112, 108, 97, 105, 110]⟩) (.slice a6 n6 q6) (.string ⟨#[97, 61, 98]⟩) (.slice a7 n7 q7) := by rw [← hw4]; exact prt_new w3 _ _ _ _ _ _
  have q5' : PrtAt w5 w4.heap.size (.slice (some ⟨w.heap.size, 0, none⟩) 1 1) (.string ⟨#[116, 101, 120, 116]⟩) (.string ⟨#[112, 108, 97, 105, 110]⟩) (.slice none 0 0) (.string ⟨#[97, 61, 98]⟩) (.slice none 0 0) := by rw [← hw5]; exact prt_new w4 _ _ _ _ _ _
  have q6' : PrtAt w6 w5.heap.size (.slice none 0 0) (.string ⟨#[109, 117, 108, 116, 105, 112, 97, 114, 116]⟩) (.string ⟨#[109, 105, 120, 101, 100]⟩) (.slice none 0 0) (.string ⟨#[]⟩) (.slice (some ⟨w4.heap.size, 0, none⟩) 1 1) := by rw [← hw6]; exact prt_new w5 _ _ _ _ _ _
  have b46 := b5.trans (b6.mono b5.size)
  have b36 := b4.trans (b46.mono b4.size)
  have K6 := Lib.hid (And.intro (h3.trans (b36.mono h3.size)) (And.intro (q4.below b46) (And.intro (q5'.below b6) (And.intro q6' (And.intro z5 b6.size)))))
  have hpm : Hid (∀ W, Below w6.heap.size w6 W → Calls Tryz.prog 6 #[.agg #[.slice none 0 0, .string ⟨#[109, 117, 108, 116, 105, 112, 97, 114, 116]⟩, .string ⟨#[109, 105, 120, 101, 100]⟩, .slice none 0 0, .string ⟨#[]⟩, .slice (some ⟨w4.heap.size, 0, none⟩) 1 1]] W fun e w' => e = .returned (.tuple #[.string (⟨#[67, 111, 110, 116, 101, 110, 116, 45, 84, 121, 112, 101, 58, 32, 109, 117, 108, 116, 105, 112, 97, 114, 116, 47, 109, 105, 120, 101, 100, 59, 32, 98, 111, 117, 110, 100, 97, 114, 121, 61, 34, 61, 95, 48, 34, 13, 10, 13, 10, 45, 45, 61, 95, 48, 13, 10]⟩ ++ (⟨([84, 111, 58, 32, 97, 64, 98, 13, 10, 67, 111, 110, 116, 101, 110, 116, 45, 84, 121, 112, 101, 58, 32, 116, 101, 120, 116, 47, 112, 108, 97, 105, 110, 13, 10, 67, 111, 110, 116, 101, 110, 116, 45].append [84, 114, 97, 110, 115, 102, 101, 114, 45, 69, 110, 99, 111, 100, 105, 110, 103, 58, 32, 113, 117, 111, 116, 101, 100, 45, 112, 114, 105, 110, 116, 97, 98, 108, 101, 13, 10, 13, 10, 97, 61, 51, 68, 98]).toArray⟩ : ByteArray) ++ ⟨#[13, 10, 45, 45, 61, 95, 48, 45, 45, 13, 10]⟩), .int .i64 0]) ∧ Below W.heap.size W w') := Lib.hid fun W hW => by
    obtain ⟨k1, _, k3, _, k5, k6⟩ := K6.out
    have hbw := k1.trans (hW.mono k1.size)
    have hw := K1.out.1.trans (hbw.mono K1.out.1.size)
    have hz := hW.size
    obtain ⟨c0, c1, c2, c3, c4, c5, _⟩ := (k3.below hW).cells
    have hT : TreeAt W W.heap.size multG (.slice none 0 0) (.slice none 0 0) (.slice (some ⟨w4.heap.size, 0, none⟩) 1 1) := ⟨FieldsP.nil _ _, ParsP.nil _ _, 1, _, 1, rfl, Nat.le_refl _, by decide, fun i hi => by
      obtain rfl : i = 0 := by have : i < 1 := hi; omega
      have ht := HT.out W hbw
      exact ⟨w4.heap.size, 0, _, _, _, rfl, by show w4.heap.size < W.heap.size; omega, c0, c1, c2, c3, c4, c5, ht.f, ht.t, none, 0, rfl, by decide, rfl⟩⟩
    have h := gprint_any W.heap.size m multG _ _ _ W hT (Nat.le_refl _) (HM.out W hw).1 (HM.out W hw).2 multg_form multg_nodes multg_good (by decide +kernel)
    rw [multg_text, multg_lay] at h
    exact h
  have h1 := hpm.out w6 (Below.refl _ _)
  obtain ⟨x0, x1, x2, x3, x4, x5, _⟩ := q6'.cells
  obtain ⟨v0, v1, v2, v3, v4, v5, _⟩ := ((K1.out.2.2.1.below h3).below b4).cells
  have zz := Lib.hid (And.intro z4 z5)
  clear b4 b5 b6 q4 q5' q6' b46 b36 h3 hb3 z4 z5
  go_wp2_with fail
  refine h1.mono ?_
  rintro e w7 ⟨rfl, hb⟩
  have K7 := Lib.hid (And.intro (K6.out.1.trans (hb.mono K6.out.1.size)) (K6.out.2.1.below hb))
  have h2 := hem.out w7
  clear h1 hb x0 x1 x2 x3 x4 x5 v0 v1 v2 v3 v4 v5 y0 y1 y2 y3 y4 y5
  go_wp2_with fail
  refine h2.mono ?_
  rintro e w8 ⟨rfl, hb⟩
  have Fin := Lib.hid (K1.out.1.trans ((K7.out.1.trans (hb.mono K7.out.1.size)).mono K1.out.1.size))
  obtain ⟨x0, x1, x2, x3, x4, x5, _⟩ := (K7.out.2.below hb).cells
  clear h2 hb hpr hca hem hpm HT HM K1 K2 K6 K7
  go_wp2
  go_ret
  exact ⟨rfl, Fin.out⟩
end Go.Proofs.YtjikghndoklajaaGreatDoor
