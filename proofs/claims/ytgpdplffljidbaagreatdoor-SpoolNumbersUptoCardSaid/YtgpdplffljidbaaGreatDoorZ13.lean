/-
  Texts of this proof, put together: Sh5.
-/
import Derived.Test.YtgpdplffljidbaaGreatDoorZ12
import Derived.Test.YtgpdplffljidbaaGreatDoorZ01
import Derived.Deep.RegionHeld3
namespace Go.Proofs.YtgpdplffljidbaaGreatDoor
open Go.RowKit Go.Maps

def endP (n : Nat) : List UInt8 := 128 :: (List.replicate (63 - (n + 8) % 64) 0 ++ bytesN (n * 8) 8)
theorem endP_len (n : Nat) : (endP n).length = 72 - (n + 8) % 64 := by
  unfold endP
  rw [List.length_cons, List.length_append, List.length_replicate, bytesN_len]
  omega
theorem repeat_zero : ∀ c, Lib.repeatL [0] c = List.replicate c (0 : UInt8)
  | 0 => rfl
  | c + 1 => by
    rw [List.replicate_succ]
    show [0] ++ Lib.repeatL [0] c = _
    rw [repeat_zero c]
    rfl

set_option maxRecDepth 100000 in
set_option maxHeartbeats 2000000 in
theorem end_any (n : Nat) (hn : n ≤ 1000000000) (w : World) :
    Calls Tryz.prog 156 #[.int .i64 (n : Int)] w fun e w' => e = .returned (.string (textQ (endP n))) ∧ Below w.heap.size w w' := by
  obtain ⟨c, hc⟩ : ∃ c, 63 - (n + 8) % 64 = c := ⟨_, rfl⟩
  have hci : (63 : Int) - ((n : Int) + 8) % 64 = (c : Int) := by omega
  have hrep := Tryz.strings_Repeat ⟨#[0]⟩ c w (by omega) (by show 1 * c ≤ _; omega)
  have e0 : (⟨#[0]⟩ : ByteArray).data.toList = [0] := rfl
  rw [e0, repeat_zero] at hrep
  have Hc := Lib.hid hc
  have hc63 : c ≤ 63 := by omega
  have hl8 : (bytesN (n * 8) 8).length ≤ 8 := Nat.le_of_eq (bytesN_len _ _)
  clear hc e0
  go_enter Tryz.func156, Tryz.ntmps156
  go_wp2_with (go_at_call 60; refine hrep.mono ?_; rintro e w2 ⟨rfl, hb2⟩)
  have happ := appn_of w.heap.size (.slice none 0 0) [] (n * 8) 8 (by omega) ((n : Int) * 8) 8 (by push_cast; rfl) rfl w2 (World.ownsRow_nil _ _ _ _) hb2.size (by simp)
  go_wp2_with (go_at_call 63; refine happ.mono ?_; rintro e w3 ⟨v3, rfl, hown3, ht3, hf3⟩; have hcv := conv_own4 hown3; rw [List.nil_append] at hcv)
  have hb3 : Below w.heap.size w w3 := hb2.trans (ht3.below hb2.size (fun b hb => by cases hb))
  have Hfin : Hid ((⟨#[128]⟩ : ByteArray) ++ ⟨(List.replicate c (0 : UInt8)).toArray⟩ ++ ⟨(bytesN (n * 8) 8).toArray⟩ = textQ (endP n)) := Lib.hid (by
    apply ByteArray.ext
    rw [ByteArray.data_append, ByteArray.data_append]
    unfold endP
    rw [Hc.out]
    apply Array.ext'
    simp [textQ])
  clear happ hrep ht3 hf3 hown3
  go_wp2
  go_ret
  exact ⟨by have := Hfin.out; simp at this ⊢; exact this, hb3⟩

theorem words_one (l : List Int) : (wordsV l).toArray.all (·.oneCell') = true := by
  rw [List.all_toArray, List.all_eq_true]
  intro v hv
  obtain ⟨x, _, rfl⟩ := List.mem_map.1 hv
  rfl
def StartAt (w : World) (b k : Nat) (st : St8) : Prop := ∀ j, j < 8 → w.cell? ⟨b, k + j, none⟩ = some (.int .u32 (st.list[j]?.getD 0))
def mixN (ks : List Int) (st : St8) (l : List UInt8) : Nat → St8
  | 0 => st
  | j + 1 => mixP ks (mixN ks st l j) ((l.drop (64 * j)).take 64)
def headB (l : List UInt8) : List UInt8 := l.take (l.length / 64 * 64)
def tailB (l : List UInt8) : List UInt8 := l.drop (l.length / 64 * 64) ++ endP l.length
def stateP (ks : List Int) (st : St8) (l : List UInt8) : St8 := mixN ks (mixN ks st (headB l) ((headB l).length / 64)) (tailB l) ((tailB l).length / 64)
def St8.bytes (s : St8) : List UInt8 := s.list.flatMap fun x => bytesN x.toNat 4
def digestP (ks : List Int) (st : St8) (l : List UInt8) : List UInt8 := (stateP ks st l).bytes
theorem bytes_len (s : St8) : s.bytes.length = 32 := by
  unfold St8.bytes St8.list
  simp [bytesN_len]
theorem digest_len (ks : List Int) (st : St8) (l : List UInt8) : (digestP ks st l).length = 32 := bytes_len _
def St8.wf (s : St8) : Prop := ∀ x ∈ s.list, 0 ≤ x ∧ x < 4294967296
theorem mix_wf (ks : List Int) (st : St8) (l : List UInt8) : (mixP ks st l).wf := by
  intro x hx
  unfold mixP St8.plus St8.list at hx
  simp only [List.mem_cons, List.not_mem_nil, or_false] at hx
  rcases hx with rfl | rfl | rfl | rfl | rfl | rfl | rfl | rfl <;> omega
theorem mixN_wf (ks : List Int) {st : St8} (h : st.wf) (l : List UInt8) : ∀ j, (mixN ks st l j).wf
  | 0 => h
  | _j + 1 => mix_wf ks _ _

theorem TabAt.below {w w' : World} {b k B : Nat} {ks : List Int} (h : TabAt w b k ks) (hb : Below B w w') (hB : b < B) : TabAt w' b k ks := fun j hj => by
  rw [hb.cell (p := ⟨b, k + 8 + j, none⟩) hB]
  exact h j hj
theorem StartAt.below {w w' : World} {b k B : Nat} {st : St8} (h : StartAt w b k st) (hb : Below B w w') (hB : b < B) : StartAt w' b k st := fun j hj => by
  rw [hb.cell (p := ⟨b, k + j, none⟩) hB]
  exact h j hj

set_option maxRecDepth 100000 in
set_option maxHeartbeats 4000000 in
theorem dsum_any (b k : Nat) (ks : List Int) (st : St8) (hst : st.wf) (s : ByteArray) (hs : s.size ≤ 1000000000) (w : World) (ht : TabAt w b k ks) (hb : b < w.heap.size) (h0 : StartAt w b k st) :
    Calls Tryz.prog 131 #[.pointer (some ⟨b, k, none⟩), .string s] w fun e w' => e = .returned (.string (textQ (digestP ks st s.data.toList))) ∧ Below w.heap.size w w' := by
  have hr : w.rangeAt b k (wordsV st.list) := fun j v hj => by
    have hlt : j < 8 := by
      have := (List.getElem?_eq_some_iff.1 hj).1
      simpa [wordsV, St8.list] using this
    rw [h0 j hlt]
    rw [wordsV, List.getElem?_map] at hj
    cases he : st.list[j]? with
    | none => rw [he] at hj; cases hj
    | some x => rw [he] at hj; exact hj
  have Hr := Lib.hid hr
  have H0 := Lib.hid (And.intro ht (And.intro hb h0))
  have hend := end_any s.size hs
  have hbr0 := Below.refl w.heap.size w
  clear hr ht hb h0
  go_enter Tryz.func131, Tryz.ntmps131
  have hone := words_one st.list
  have hnew := fun (w : World) (cs : Array Value) (hcs : cs.size = 8) => setRow_heap (w.alloc (.cells cs 105)) w.heap.size _ (wordsV st.list).toArray 105 (0, 0) (heap_alloc_new w _)
  have Hnew := Lib.hid hnew
  clear hnew
  go_wp2_with (first | ((with_reducible refine wpList_load_mid rfl 105 (.tmp 15) rfl b k ?_ (wordsV st.list) _ Hr.out Tryz.underlying105 ?_ ?_ ?_); (· rfl); (· rfl); (· kernel_rfl)) | ((with_reducible refine wpList_store_row rfl 105 (.tmp 5) (.tmp 16) rfl w.heap.size (wordsV st.list).toArray ?_ ?_ 105 _ (heap_alloc_new w _) ?_ ?_ hone ?_); (· rfl); (· rfl); (· kernel_rfl); (· kernel_rfl)))
  have hu0 : WordsAt ((w.alloc (.cells #[.int .u32 0, .int .u32 0, .int .u32 0, .int .u32 0, .int .u32 0, .int .u32 0, .int .u32 0, .int .u32 0] 105)).setRow w.heap.size (wordsV st.list).toArray) w.heap.size st.list 105 := Hnew.out w _ rfl
  have hb0 : Below w.heap.size w ((w.alloc (.cells #[.int .u32 0, .int .u32 0, .int .u32 0, .int .u32 0, .int .u32 0, .int .u32 0, .int .u32 0, .int .u32 0] 105)).setRow w.heap.size (wordsV st.list).toArray) := (hbr0.alloc (Nat.le_refl _) _).trans ((turned_row9 (S := fun b => b = w.heap.size) rfl).below (by simp) (fun b e => by omega))
  generalize (w.alloc (.cells #[.int .u32 0, .int .u32 0, .int .u32 0, .int .u32 0, .int .u32 0, .int .u32 0, .int .u32 0, .int .u32 0] 105)).setRow w.heap.size (wordsV st.list).toArray = w1 at hu0 hb0 ⊢
  have hu1 := hu0.lt
  clear Hnew Hr hone hbr0
  obtain ⟨m, hm⟩ : ∃ m, s.size / 64 = m := ⟨_, rfl⟩
  have hmi : (s.size : Int) / 64 = (m : Int) := by omega
  have Hm := Lib.hid hm
  have hm2 : m * 64 ≤ s.size := by omega
  have hmi2 : ((m : Int) * 64).toNat = m * 64 := by omega
  have hmi3 : (0 : Int) ≤ (m : Int) * 64 := by omega
  have hmi4 : (m : Int) * 64 ≤ (s.size : Int) := by omega
  clear hm
  simp only [hmi]
  have HB := Lib.hid (And.intro hu0 (And.intro hb0 hu1))
  clear hu0 hb0 hu1 hmi
  have hel : (textQ (endP s.size)).size ≤ 72 := by show (endP s.size).length ≤ 72; rw [endP_len]; omega
  have hsum : ¬ (9223372036854775807 < s.size - m * 64 + (textQ (endP s.size)).size) := by omega
  go_region_held3 (fun _ => True) (trivial) ((go_at_call 156; refine (hend _).mono ?_; rintro e w9 ⟨rfl, hb9⟩))
  rename_i hHeld
  clear hHeld
  obtain ⟨p0, hp0⟩ : ∃ p0, s.extract 0 (m * 64) = p0 := ⟨_, rfl⟩
  obtain ⟨p1, hp1⟩ : ∃ p1, s.extract (m * 64) s.size ++ textQ (endP s.size) = p1 := ⟨_, rfl⟩
  simp only [hp0, hp1]
  have hs0 : p0.size = 64 * m := by rw [← hp0, ByteArray.size_extract]; omega
  have hs1 : ∃ m1, p1.size = 64 * m1 ∧ m1 ≤ 2 := by
    have h1 : p1.size = (s.size - m * 64) + (72 - (s.size + 8) % 64) := by
      rw [← hp1, ByteArray.size_append, ByteArray.size_extract]
      show _ + (endP s.size).length = _
      rw [endP_len]
      omega
    have hmm := Hm.out
    exact ⟨p1.size / 64, by omega, by omega⟩
  obtain ⟨m1, hs1, hm1⟩ := hs1
  have Hst : Hid (stateP ks st s.data.toList = mixN ks (mixN ks st p0.data.toList m) p1.data.toList m1) := Lib.hid (by
    have hl : s.data.toList.length = s.size := rfl
    have e0 : headB s.data.toList = p0.data.toList := by
      rw [← hp0, Lib.extract_data, headB, hl, Hm.out]
      simp
    have e1 : tailB s.data.toList = p1.data.toList := by
      rw [← hp1, ByteArray.data_append, Array.toList_append, Lib.extract_data, tailB, hl, Hm.out]
      have e2 : (s.data.toList.extract (m * 64) s.size) = s.data.toList.drop (m * 64) := by
        rw [List.extract_eq_take_drop]
        exact List.take_of_length_le (by rw [List.length_drop, hl]; exact Nat.le_refl _)
      simp only [e2]
      rfl
    unfold stateP
    rw [e0, e1, show p0.data.toList.length = p0.size from rfl, show p1.data.toList.length = p1.size from rfl, hs0, hs1, show 64 * m / 64 = m by omega, show 64 * m1 / 64 = m1 by omega])
  clear hp0 hp1 hmi2 hmi3 hmi4 hel hend hsum
  obtain ⟨w2, hw2⟩ : ∃ w2, w9.alloc (.cells #[.string p0, .string p1] 9) = w2 := ⟨_, rfl⟩
  obtain ⟨q, hq⟩ : ∃ q, w9.heap.size = q := ⟨_, rfl⟩
  have hqh : w2.heap[q]? = some (.cells #[.string p0, .string p1] 9 (0, 0)) := by rw [← hw2, ← hq, heap_alloc_new]
  have hb2 : Below w1.heap.size w1 w2 := by
    rw [← hw2]
    exact ((below_drewN (Below.refl _ w1) 1).trans hb9).alloc hb9.size _
  have hqu : q ≠ w.heap.size := by
    have h1 := HB.out.2.2
    have h2 : w1.heap.size ≤ w9.heap.size := hb9.size
    omega
  rw [hw2, hq]
  have hw2b : Below w.heap.size w w2 := HB.out.2.1.trans (hb2.mono (Nat.le_of_lt HB.out.2.2))
  have hu2 : WordsAt w2 w.heap.size st.list 105 := HB.out.1.keep (S := fun _ => False) (Turned.of_below hb2 (Nat.le_refl _)) (fun h => h)
  clear hb9 hw2 hq HB hb2
  have hS : ∃ S : Nat → St8, S 0 = st ∧ S 1 = mixN ks st p0.data.toList m ∧ S 2 = mixN ks (mixN ks st p0.data.toList m) p1.data.toList m1 := ⟨fun i => if i = 0 then st else if i = 1 then mixN ks st p0.data.toList m else mixN ks (mixN ks st p0.data.toList m) p1.data.toList m1, rfl, rfl, rfl⟩
  obtain ⟨S, hS0, hS1, hS2⟩ := hS
  have HS := Lib.hid (And.intro hS0 (And.intro hS1 hS2))
  rw [← hS2] at Hst
  have Hq := Lib.hid (And.intro hqh (And.intro hqu hw2b))
  rw [← hS0] at hu2
  clear hS0 hS1 hS2 hqh hqu hw2b
  go_wp2
  --@b
  go_loopw [8, 9, 33] (fun _ _ iv wr => ∃ i : Nat, i ≤ 2 ∧ iv = .int .i64 i ∧ WordsAt wr w.heap.size (S i).list 105 ∧ Turned (fun b => b = w.heap.size) w2 wr) (fun _ _ iv _ => 2 - (intOf iv).toNat)
  case atStart => exact ⟨0, by omega, rfl, hu2, Turned.refl _ _⟩
  case round =>
    clear hu2
    obtain ⟨i, hi, rfl, hu, htr⟩ := hrel
    by_cases hlt : i < 2
    · have hpc : ∃ (p : ByteArray) (M : Nat), wr.cell? ⟨q, i, none⟩ = some (.string p) ∧ p.size = 64 * M ∧ Hid (S (i + 1) = mixN ks (S i) p.data.toList M) ∧ p.size ≤ 1000000000 := by
        have hh := htr.heap Hq.out.1 Hq.out.2.1
        have e := HS.out
        match i, hlt with
        | 0, _ => exact ⟨p0, m, by rw [Lib.cell_of_heap hh]; rfl, hs0, Lib.hid (by rw [e.1]; exact e.2.1), by omega⟩
        | 1, _ => exact ⟨p1, m1, by rw [Lib.cell_of_heap hh]; rfl, hs1, Lib.hid (by rw [e.2.1]; exact e.2.2), by omega⟩
      obtain ⟨p, M, hcell, hpz, hnext, hpl⟩ := hpc
      have HM := Lib.hid hpz
      clear hpz hs0 hs1
      have hdec : decide ((i : Int) < 2) = true := by rw [decide_eq_true_eq]; omega
      go_wp2
      clear hdec
      go_loopw [9] (fun av wr2 => ∃ at_ : Nat, at_ ≤ p.size ∧ av = .int .i64 at_ ∧ Hid (at_ % 64 = 0) ∧ WordsAt wr2 w.heap.size (mixN ks (S i) p.data.toList (at_ / 64)).list 105 ∧ Turned (fun b => b = w.heap.size) w2 wr2) (fun av _ => p.size - (intOf av).toNat)
      case atStart => exact ⟨0, by omega, rfl, Lib.hid rfl, hu, htr⟩
      case round =>
        clear hu htr
        obtain ⟨at_, hat, rfl, hmod, hu, htr⟩ := hrel
        by_cases hal : at_ < p.size
        · have hbw : Below w.heap.size w wr := Hq.out.2.2.trans (htr.below (B := w.heap.size) Hq.out.2.2.size (fun b e => by omega))
          have ht := H0.out.1.below hbw H0.out.2.1
          have hbs : b < wr.heap.size := Nat.lt_of_lt_of_le H0.out.2.1 hbw.size
          have hal2 : at_ + 64 ≤ p.size := by
            have h1 := HM.out
            have h2 := hmod.out
            omega
          have hmix := mix_any b k w.heap.size ks (mixN ks (S i) p.data.toList (at_ / 64)) (p.extract at_ (at_ + 64)) (by rw [ByteArray.size_extract]; omega) wr ht hbs hu
          have hmn : mixP ks (mixN ks (S i) p.data.toList (at_ / 64)) (p.extract at_ (at_ + 64)).data.toList = mixN ks (S i) p.data.toList ((at_ + 64) / 64) := by
            have h2 := hmod.out
            rw [show (at_ + 64) / 64 = at_ / 64 + 1 by omega, mixN, show 64 * (at_ / 64) = at_ by omega, Lib.extract_data]
            simp
          rw [hmn] at hmix
          have Htr := Lib.hid htr
          clear ht hbs hbw hmn hu htr
          go_wp2_with (go_at_call 157; refine hmix.mono ?_; rintro e w3 ⟨rfl, hu3, ht3⟩)
          have ht4 := Htr.out.trans ht3 (fun b e => .inl e)
          clear hmix ht3 Htr
          go_wp2
          go_roundw
          case rel => exact ⟨at_ + 64, by omega, by go_num, Lib.hid (by have := hmod.out; omega), hu3, ht4⟩
          case measure => simp [intOf]; omega
        · obtain rfl : at_ = p.size := by omega
          have hMM := HM.out
          rw [show p.size / 64 = M by omega, ← hnext.out] at hu
          clear hMM
          go_wp2
          go_roundw
          case rel => exact ⟨i + 1, by omega, by go_num, hu, htr⟩
          case measure => simp [intOf]; omega
    · obtain rfl : i = 2 := by omega
      have Hwf : Hid ((S 2).wf) := Lib.hid (by
        rw [HS.out.2.2]
        exact mixN_wf ks (mixN_wf ks hst _ _) _ _)
      clear HS hs0 hs1
      have hbw : Below w.heap.size w wr := Hq.out.2.2.trans (htr.below (B := w.heap.size) Hq.out.2.2.size (fun b e => by omega))
      clear Hq htr
      obtain ⟨L, hL⟩ : ∃ L, S 2 = L := ⟨_, rfl⟩
      rw [hL] at hu Hst Hwf
      clear hL
      have HU := Lib.hid hu
      unfold WordsAt at hu
      go_wp2_with (first | ((with_reducible refine wpList_load_row rfl 105 (.tmp 5) rfl w.heap.size ?_ 105 (wordsV L.list).toArray (0, 0) _ hu Tryz.underlying105 ?_ ?_ ?_); (· rfl); (· rfl); (· kernel_rfl)))
      have HL0 : Hid (∀ j, j < 8 → ∃ x : Nat, L.list[j]? = some (x : Int) ∧ x < 4294967296) := Lib.hid fun j hj => by
        have hjl : j < L.list.length := hj
        have hx := Hwf.out _ (List.getElem_mem hjl)
        refine ⟨(L.list[j]).toNat, ?_, by omega⟩
        rw [List.getElem?_eq_getElem hjl]
        congr 1
        omega
      go_loopw [10, 52] (fun vv iv wr => ∃ i : Nat, i ≤ 8 ∧ iv = .int .i64 i ∧ OwnB9 w.heap.size wr vv ((L.list.take i).flatMap fun x => bytesN x.toNat 4) ∧ Below w.heap.size w wr) (fun _ iv _ => 8 - (intOf iv).toNat)
      case atStart => exact ⟨0, by omega, rfl, World.ownsRow_nil _ _ _ _, hbw⟩
      case round =>
        clear hu HU hbw
        obtain ⟨i, hi, rfl, hown, hbw⟩ := hrel
        by_cases hlt : i < 8
        · obtain ⟨x, hx, hx2⟩ := HL0.out i hlt
          have hFi : (wordsV L.list).toArray[i]? = some (.int .u32 (x : Int)) := by
            simp [wordsV, hx]
          have hacc : ((L.list.take i).flatMap fun x => bytesN x.toNat 4).length ≤ 100000000 := by
            have : ∀ l : List Int, (l.flatMap fun x => bytesN x.toNat 4).length = 4 * l.length := fun l => by
              induction l with
              | nil => rfl
              | cons a l ih => rw [List.flatMap_cons, List.length_append, ih, bytesN_len, List.length_cons]; omega
            rw [this, List.length_take]
            omega
          have hnx : ((L.list.take i).flatMap fun x => bytesN x.toNat 4) ++ bytesN x 4 = (L.list.take (i + 1)).flatMap fun x => bytesN x.toNat 4 := by
            have hil : i < L.list.length := hlt
            rw [List.take_succ_eq_append_getElem hil, List.flatMap_append]
            have : L.list[i] = (x : Int) := by
              rw [List.getElem?_eq_getElem hil] at hx
              exact Option.some.inj hx
            rw [this]
            simp
          have happ := appn_of w.heap.size u10 _ x 4 (by omega) (x : Int) 4 rfl rfl wr hown hbw.size hacc
          rw [hnx] at happ
          have hrb : ∀ b, blkOf u10 b → w.heap.size ≤ b := fun b e => (row_block hown e).1
          have HFi := Lib.hid hFi
          have Hb := Lib.hid hbw
          clear hx hFi hacc hnx hown hbw
          go_wp2_with (first | ((with_reducible refine wpList_index_agg rfl 105 (.tmp 51) (.tmp 52) rfl (wordsV L.list).toArray i ?_ ?_ 8 90 Tryz.underlying105 hlt ?_ ?_ _ HFi.out ?_); (· rfl); (· rfl); (· kernel_rfl); (· kernel_rfl)) | (go_at_call 63; refine happ.mono ?_; rintro e w3 ⟨v3, rfl, hown3, ht3, hf3⟩))
          have hb3 : Below w.heap.size w w3 := Hb.out.trans (ht3.below Hb.out.size hrb)
          clear happ ht3 hf3 hrb Hb
          go_wp2
          go_roundw
          case rel => exact ⟨i + 1, by omega, by go_num, hown3, hb3⟩
          case measure => simp [intOf]; omega
        · obtain rfl : i = 8 := by omega
          have hcv := conv_own4 hown
          have hfin : ((L.list.take 8).flatMap fun x => bytesN x.toNat 4) = digestP ks st s.data.toList := by
            unfold digestP
            rw [Hst.out]
            rfl
          rw [hfin] at hcv
          have Hbw := Lib.hid hbw
          clear hown hfin hbw
          go_wp2
          --@e
          go_ret
          exact ⟨rfl, Hbw.out⟩
end Go.Proofs.YtgpdplffljidbaaGreatDoor
