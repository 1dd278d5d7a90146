/-
  Texts of this proof, put together: SecB.
-/
import Derived.Test.YtcjmpkfcjcoobaaGreatX08
import Derived.Laws.CopyOwn
import Derived.Lib.BufferWrite
namespace Go.Proofs.YtcjmpkfcjcoobaaGreat
open Go.RowKit Go.Maps

/-- One cell of a disk's block turns. -/
theorem DiskAt.set {w : World} {B N g : Nat} {d d' : Dk} (h : DiskAt w B N g d) (j : Nat) (x : Value) (hss : d'.ss = d.ss) (hok : d'.ok)
    (hc : ∀ v : Value, (#[v, .int .i64 d.ca, .int .i64 d.ct, .bool d.down, .int .i64 d.wr, .int .i64 d.ah] : Array Value).setIfInBounds j x = #[v, .int .i64 d'.ca, .int .i64 d'.ct, .bool d'.down, .int .i64 d'.wr, .int .i64 d'.ah]) :
    DiskAt (w.setCell ⟨N, j, none⟩ x) B N g d' ∧ Turned (mineD N g) w (w.setCell ⟨N, j, none⟩ x) := by
  obtain ⟨cap, rest, h1, h2, h3, h4⟩ := h.mem
  refine ⟨⟨h.bN, h.bg, h.ne, hok, by rw [hss]; exact h.few, cap, rest, by rw [hss]; exact h1, h2, ?_, ?_⟩, Turned.set (.inl rfl)⟩
  · rw [set_block h3, hc, hss]
  · rw [hss]
    exact (Turned.set (S := fun b => b = N) (j := j) (N := N) (v := x) rfl).heap h4 (fun e => h.ne e.symm)

set_option maxRecDepth 100000 in
set_option maxHeartbeats 1000000 in
theorem count_any (B N g : Nat) (d : Dk) (w : World) (h : DiskAt w B N g d) :
    Calls Tryz.prog 49 #[.pointer (some ⟨N, 0, none⟩)] w fun e w' => e = .returned (.tuple #[]) ∧ DiskAt w' B N g ⟨d.ss, d.ca, d.ct, d.down, d.wr, d.wr⟩ ∧ Turned (mineD N g) w w' := by
  obtain ⟨cap, h1, h2, _, _, _, _, c4, c5, fz⟩ := h.cells
  have f5 := fz 5
  have hl := load64_any ⟨N, 4, none⟩ d.wr w c4
  have hfin := h.set (d' := ⟨d.ss, d.ca, d.ct, d.down, d.wr, d.wr⟩) 5 (.int .i64 d.wr) rfl ⟨h.ok.ss, by have := h.ok.ah; have := h.ok.wr; show 0 ≤ d.wr; omega, Int.le_refl _⟩ (fun v => rfl)
  have H := Lib.hid hfin
  clear h fz hfin
  go_enter Tryz.func49, Tryz.ntmps49
  go_wp2_with (go_at_call 66; refine hl.mono ?_; rintro e w' ⟨rfl, rfl⟩)
  (first | go_end0 | (simp only [Exit.inBlock, Exit.then]; refine bodyPost_ret (results_none rfl _ _ _) rfl ?_) | refine bodyPost_ret (results_none rfl _ _ _) rfl ?_)
  exact ⟨rfl, H.out.1, H.out.2⟩

set_option maxRecDepth 100000 in
set_option maxHeartbeats 1000000 in
theorem sstart_any (B N g : Nat) (d : Dk) (w : World) (h : DiskAt w B N g d) :
    Calls Tryz.prog 29 #[.pointer (some ⟨N, 0, none⟩)] w fun e w' => e = .returned (.tuple #[]) ∧ DiskAt w' B N g (startD d) ∧ Turned (mineD N g) w w' := by
  obtain ⟨cap, h1, h2, _, _, _, c3, c4, c5, fz⟩ := h.cells
  have f3 := fz 3
  have hfin := h.set (d' := ⟨d.ss, d.ca, d.ct, false, d.wr, d.ah⟩) 3 (.bool false) rfl ⟨h.ok.ss, h.ok.ah, h.ok.wr⟩ (fun v => rfl)
  have hc := count_any B N g _ _ hfin.1
  have H := Lib.hid hfin.2
  clear h fz hfin
  go_enter Tryz.func29, Tryz.ntmps29
  go_wp2_with fail
  refine hc.mono ?_
  rintro e w2 ⟨rfl, q1, q2⟩
  have Q := Lib.hid (And.intro q1 q2)
  clear hc q1 q2
  go_wp2
  (first | go_end0 | (simp only [Exit.inBlock, Exit.then]; refine bodyPost_ret (results_none rfl _ _ _) rfl ?_) | refine bodyPost_ret (results_none rfl _ _ _) rfl ?_)
  exact ⟨rfl, Q.out.1, H.out.trans Q.out.2 (fun b e => .inl e)⟩

set_option maxRecDepth 100000 in
set_option maxHeartbeats 1000000 in
theorem arm_any (B N g : Nat) (d : Dk) (w : World) (ca ct : Int) (h : DiskAt w B N g d) :
    Calls Tryz.prog 28 #[.pointer (some ⟨N, 0, none⟩), .agg #[.int .i64 ca, .int .i64 ct]] w fun e w' => e = .returned (.tuple #[]) ∧ DiskAt w' B N g (armD d ca ct) ∧ Turned (mineD N g) w w' := by
  obtain ⟨cap, h1, h2, _, c1, c2, c3, c4, c5, fz⟩ := h.cells
  have hN := h.ltN
  have f1 := fz 1
  have f2 := fz 2
  have s1 := h.set (d' := ⟨d.ss, ca, d.ct, d.down, d.wr, d.ah⟩) 1 (.int .i64 ca) rfl ⟨h.ok.ss, h.ok.ah, h.ok.wr⟩ (fun v => rfl)
  have s2 := s1.1.set (d' := ⟨d.ss, ca, ct, d.down, d.wr, d.ah⟩) 2 (.int .i64 ct) rfl ⟨h.ok.ss, h.ok.ah, h.ok.wr⟩ (fun v => rfl)
  have hc := count_any B N g _ _ (s2.1.alloc (.cells #[.int .i64 ca, .int .i64 ct] 70))
  have H := Lib.hid ((s1.2.trans s2.2 (fun b e => .inl e)).trans (Turned.of_below (S := mineD N g) ((Below.refl _ _).alloc (Nat.le_refl _) (.cells #[.int .i64 ca, .int .i64 ct] 70)) (Nat.le_refl _)) (fun b e => .inl e))
  clear h fz s1 s2
  go_enter Tryz.func28, Tryz.ntmps28
  go_wp2_with fail
  refine hc.mono ?_
  rintro e w2 ⟨rfl, q1, q2⟩
  have Q := Lib.hid (And.intro q1 q2)
  clear hc q1 q2
  go_wp2
  (first | go_end0 | (simp only [Exit.inBlock, Exit.then]; refine bodyPost_ret (results_none rfl _ _ _) rfl ?_) | refine bodyPost_ret (results_none rfl _ _ _) rfl ?_)
  exact ⟨rfl, Q.out.1, H.out.trans Q.out.2 (fun b e => .inl e)⟩

set_option maxRecDepth 100000 in
theorem conv_text {w : World} {g o : Nat} {l : List UInt8} {cap : Nat} {pre post : List Value} (h : w.heap[g]? = some (.cells (pre ++ Lib.byteCells l ++ post).toArray 5 (0, 0))) (ho : pre.length = o) :
    (convert 72 9 (.slice (some ⟨g, o, none⟩) l.length cap)).run Tryz.prog w = .ok (.string ⟨l.toArray⟩) w := by
  have := run_convert_bytes_arg (P := Tryz.prog) w 72 5 Tryz.underlying72 Tryz.underlying5 g o l.length cap (l.map fun b => (b.toNat : Int)) (by rw [List.length_map]) (fun i hi => by
      rw [Lib.cell_of_heap h]
      unfold Lib.byteCells
      simp only [List.getElem?_toArray]
      rw [List.append_assoc, List.getElem?_append_right (by omega), List.getElem?_append_left (by simp; omega), List.getElem?_map, show o + i - pre.length = i by omega, List.getElem?_eq_getElem hi]
      simp [List.getD, List.getElem?_map, List.getElem?_eq_getElem hi]) 9 Tryz.underlying9
  rw [this]
  congr 2
  unfold strOfNums
  congr 1
  simp [List.map_map, Function.comp_def]
/-- A sector as a text. -/
theorem DiskAt.text {w : World} {B N g : Nat} {d : Dk} (h : DiskAt w B N g d) {i : Nat} (hi : i < d.ss.length) : (convert 72 9 (.slice (some ⟨g, 64 * i, none⟩) 64 64)).run Tryz.prog w = .ok (.string ⟨d.ss[i].toArray⟩) w := by
  obtain ⟨cap, rest, h1, h2, h3, h4⟩ := h.mem
  have hl := h.ok.ss.get hi
  have hfl := flat_len h.ok.ss
  have hsplit : d.ss.flatten = d.ss.flatten.take (64 * i) ++ d.ss[i] ++ d.ss.flatten.drop (64 * i + 64) := by
    rw [← flat_get h.ok.ss hi, List.append_assoc, ← List.drop_drop, List.take_append_drop, List.take_append_drop]
  have he : Lib.byteCells d.ss.flatten ++ rest = Lib.byteCells (d.ss.flatten.take (64 * i)) ++ Lib.byteCells d.ss[i] ++ (Lib.byteCells (d.ss.flatten.drop (64 * i + 64)) ++ rest) := by
    rw [← List.append_assoc, ← Lib.byteCells_append, ← Lib.byteCells_append, ← hsplit]
  rw [he] at h4
  have := conv_text (cap := 64) (o := 64 * i) h4 (by rw [Lib.byteCells_length, List.length_take]; omega)
  rw [hl] at this
  exact this

set_option maxRecDepth 100000 in
set_option maxHeartbeats 1000000 in
theorem sread_any (B N g : Nat) (d : Dk) (w : World) (h : DiskAt w B N g d) (p : Int) :
    Calls Tryz.prog 83 #[.pointer (some ⟨N, 0, none⟩), .int .i64 p] w fun e w' => e = .returned (.tuple #[.string ⟨(if checkD d p = 0 then d.ss.getD p.toNat [] else []).toArray⟩, .int .i64 (checkD d p)]) ∧ w' = w := by
  have hc := check_any B N g d w h p
  by_cases h0 : checkD d p = 0
  · rw [if_pos h0]
    rw [h0] at hc ⊢
    obtain ⟨_, h1, h2⟩ := check_zero.1 h0
    obtain ⟨i, rfl⟩ : ∃ i : Nat, p = i := ⟨p.toNat, by omega⟩
    have hi : i < d.ss.length := by omega
    have ht := h.text hi
    have hcut := cut_out_any B N g d w h i hi
    rw [Int.toNat_natCast, List.getD_eq_getElem?_getD, List.getElem?_eq_getElem hi, Option.getD_some]
    obtain ⟨X, hX⟩ : ∃ X, d.ss[i].toArray = X := ⟨_, rfl⟩
    rw [hX] at ht ⊢
    obtain ⟨o, ho⟩ : ∃ o, 64 * i = o := ⟨_, rfl⟩
    rw [ho] at ht hcut
    clear h h0 h1 h2 hX ho hi
    go_enter Tryz.func83, Tryz.ntmps83
    go_wp2_with (first | (go_at_call 46; refine hc.mono ?_; rintro e w' ⟨rfl, rfl⟩) | (go_at_call 48; refine hcut.mono ?_; rintro e w' ⟨rfl, rfl⟩))
    go_ret2
    exact ⟨rfl, rfl⟩
  · rw [if_neg h0]
    obtain ⟨c, hcc⟩ : ∃ c, checkD d p = c := ⟨_, rfl⟩
    rw [hcc] at hc h0 ⊢
    have hb : (c == 0) = false := by rw [beq_eq_false_iff_ne]; exact h0
    clear h h0 hcc
    go_enter Tryz.func83, Tryz.ntmps83
    go_wp2_with (go_at_call 46; refine hc.mono ?_; rintro e w' ⟨rfl, rfl⟩)
    go_ret2
    exact ⟨rfl, rfl⟩

/-- A sector as a text. -/
def textD (s : List UInt8) : ByteArray := ⟨s.toArray⟩
theorem text_size (s : List UInt8) : (textD s).size = s.length := rfl
/-- .. of a disk that is on. -/
theorem sread_ok (B N g : Nat) (d : Dk) (w : World) (h : DiskAt w B N g d) (hd : d.down = false) (i : Nat) (hi : i < d.ss.length) :
    Calls Tryz.prog 83 #[.pointer (some ⟨N, 0, none⟩), .int .i64 (i : Int)] w fun e w' => e = .returned (.tuple #[.string (textD d.ss[i]), .int .i64 0]) ∧ w' = w := by
  have := sread_any B N g d w h i
  have h0 : checkD d (i : Int) = 0 := check_zero.2 ⟨hd, by omega, by omega⟩
  rw [h0, if_pos rfl, Int.toNat_natCast, List.getD_eq_getElem?_getD, List.getElem?_eq_getElem hi, Option.getD_some] at this
  exact this
end Go.Proofs.YtcjmpkfcjcoobaaGreat
