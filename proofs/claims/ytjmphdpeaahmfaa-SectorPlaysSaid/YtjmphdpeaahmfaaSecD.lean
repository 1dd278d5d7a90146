/-
  What a disk's Copy comes to: a disk like it, in blocks of its own.
-/
import Derived.Test.YtjmphdpeaahmfaaSecC
import Derived.Test.YtjmphdpeaahmfaaSyncS
import Derived.Handy
namespace Go.Proofs.Ytjmphdpeaahmfaa
open Go.RowKit Go.Maps

set_option maxRecDepth 100000 in
set_option maxHeartbeats 4000000 in
theorem scopy_any (B N g : Nat) (d : Dk) (w : World) (h : DiskAt w B N g d) (hB : B ≤ w.heap.size) (hn : 0 < d.ss.length) :
    Calls Try.prog 19 #[.pointer (some ⟨N, 0, none⟩)] w fun e w' => ∃ N' g', e = .returned (.pointer (some ⟨N', 0, none⟩)) ∧ DiskAt w' B N' g' d ∧ Below w.heap.size w w' ∧ ∀ b, mineD N' g' b → w.heap.size ≤ b := by
  obtain ⟨cap, rest, h1, h2, h3, h4⟩ := h.mem
  have hfl := flat_len h.ok.ss
  have hf := h.few
  have hN := h.ltN
  have hg := h.ltg
  obtain ⟨n, hn2⟩ : ∃ n, 64 * d.ss.length = n := ⟨_, rfl⟩
  rw [hn2] at h1 h3 hfl
  have hK : ∀ W, Below w.heap.size w W → W.cell? ⟨N, 0, none⟩ = some (.slice (some ⟨g, 0, none⟩) n cap) ∧ W.cell? ⟨N, 1, none⟩ = some (.int .i64 d.ca) ∧ W.cell? ⟨N, 2, none⟩ = some (.int .i64 d.ct) ∧ W.cell? ⟨N, 3, none⟩ = some (.bool d.down) ∧ W.cell? ⟨N, 5, none⟩ = some (.int .i64 d.ah) ∧ Below w.heap.size w W := fun W hW => by
    have h3' := (hW.block N hN).trans h3
    refine ⟨?_, ?_, ?_, ?_, ?_, hW⟩ <;> rw [Lib.cell_of_heap h3'] <;> rfl
  have hC : ∀ W, Below w.heap.size w W → Calls Try.prog 28 #[.slice (some ⟨g, 0, none⟩) n cap] W fun e w' => ∃ g' cap', e = .returned (.slice (some ⟨g', 0, none⟩) n cap') ∧ w'.ownsRow w.heap.size 5 1 (.slice (some ⟨g', 0, none⟩) n cap') n (Lib.byteCells d.ss.flatten) ∧ Below w.heap.size w w' := fun W hW => by
    refine (bclone_any W g n cap _ rest hfl (by omega) (by omega) ((hW.block g hg).trans h4)).mono ?_
    rintro e w' ⟨g', cap', q1, q2, q3⟩
    exact ⟨g', cap', q1, row_more q2 hW.size, hW.trans (q3.mono hW.size)⟩
  have HK := Lib.hid hK
  have HC := Lib.hid hC
  have HD := Lib.hid h
  have Hn := Lib.hid (And.intro hn (And.intro hn2 hfl))
  obtain ⟨c0, c1, c2, c3, c5, hbw⟩ := hK w (Below.refl _ w)
  clear h h1 h2 h3 h4 hfl hf hn hn2 hK hC
  go_enter Try.func19, Try.ntmps19
  go_wp2_with fail
  go_region_held3 (fun W => W.cell? ⟨N, 0, none⟩ = some (.slice (some ⟨g, 0, none⟩) n cap) ∧ W.cell? ⟨N, 1, none⟩ = some (.int .i64 d.ca) ∧ W.cell? ⟨N, 2, none⟩ = some (.int .i64 d.ct) ∧ W.cell? ⟨N, 3, none⟩ = some (.bool d.down) ∧ W.cell? ⟨N, 5, none⟩ = some (.int .i64 d.ah) ∧ Below w.heap.size w W)
    (first | exact HK.out _ (hb1.alloc hb1.size _) | (refine HK.out _ ?_; go_grown; done))
    ((go_at_call 28; refine (HC.out _ (by go_grown)).mono ?_; rintro e w1 ⟨g', cap', rfl, hown, hb1⟩))
  rename_i hHeld
  clear hHeld
  obtain ⟨r1, r2, r3, r4, rest', r5⟩ := row_bytes hown
  have hg1 : g' < w1.heap.size := (Array.getElem?_eq_some_iff.1 r5).1
  have hbo := hb1.alloc hb1.size (.cells #[.slice (some ⟨g', 0, none⟩) n cap', .int .i64 d.ca, .int .i64 d.ct, .bool d.down, .int .i64 0, .int .i64 d.ah] 61)
  have q1 := heap_alloc_new w1 (.cells #[.slice (some ⟨g', 0, none⟩) n cap', .int .i64 d.ca, .int .i64 d.ct, .bool d.down, .int .i64 0, .int .i64 d.ah] 61)
  have q2 : (w1.alloc (.cells #[.slice (some ⟨g', 0, none⟩) n cap', .int .i64 d.ca, .int .i64 d.ct, .bool d.down, .int .i64 0, .int .i64 d.ah] 61)).heap[g']? = some (.cells (Lib.byteCells d.ss.flatten ++ rest').toArray 5 (0, 0)) := by
    rw [heap_alloc_old w1 _ hg1]
    exact r5
  generalize w1.alloc (.cells #[.slice (some ⟨g', 0, none⟩) n cap', .int .i64 d.ca, .int .i64 d.ct, .bool d.down, .int .i64 0, .int .i64 d.ah] 61) = w2 at hbo q1 q2 ⊢
  have hsz := hb1.size
  generalize w1.heap.size = M at *
  have hz2 : M < w2.heap.size := (Array.getElem?_eq_some_iff.1 q1).1
  have hD2 := (HD.out.below hbo).drew
  have hfin : DiskAt (w2.drew.setCell ⟨M, 4, none⟩ (.int .i64 d.wr)) B M g' d := by
    refine ⟨by omega, by omega, by omega, HD.out.ok, HD.out.few, cap', rest', by rw [Hn.out.2.1]; exact r2, r3, ?_, ?_⟩
    · rw [set_block (w := w2.drew) (N := M) q1, Hn.out.2.1]
      rfl
    · exact (Turned.set (S := fun b => b = M) (w := w2.drew) (j := 4) (N := M) (v := .int .i64 d.wr) rfl).heap q2 (fun e => by omega)
  have hbf : Below w.heap.size w (w2.drew.setCell ⟨M, 4, none⟩ (.int .i64 d.wr)) := (below_drewN hbo 1).setCell (p := ⟨M, 4, none⟩) hsz _
  have hl := load64_any ⟨N, 4, none⟩ d.wr w2.drew (by obtain ⟨_, _, _, _, _, _, _, c4, _⟩ := hD2.cells; exact c4)
  have hs := store64_any ⟨M, 4, none⟩ 0 d.wr w2.drew (by rw [Lib.cell_of_heap (w := w2.drew) q1]; rfl) (Lib.frozen_of_heap (w := w2.drew) q1 4)
  have Hfin := Lib.hid (And.intro hfin hbf)
  have Hg := Lib.hid r1
  clear hown hb1 r1 r2 r3 r4 r5 q1 q2 hbo hD2 hfin hbf HK HC c0 c1 c2 c3 c5 hbw
  go_wp2_with fail
  go_still_tail 7, (by kernel_rfl)
  still_call (hl)
  refine wpStill_nil ?_
  change wpList _ _ _ _ _ w2.drew
  go_wp2_with (go_at_call 29; refine hs.mono ?_; rintro e w3 ⟨rfl, rfl⟩)
  go_ret
  refine ⟨M, g', rfl, Hfin.out.1, Hfin.out.2, ?_⟩
  have := Hg.out
  rintro b (rfl | rfl) <;> omega
end Go.Proofs.Ytjmphdpeaahmfaa
