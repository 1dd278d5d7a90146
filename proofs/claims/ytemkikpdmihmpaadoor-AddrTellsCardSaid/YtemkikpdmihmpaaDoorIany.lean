/-
  strings.IndexAny at bytes below 128, of any text.
-/
import Derived.Test.YtemkikpdmihmpaaDoorRows
import Derived.WalkKit
import Derived.WalkSpells
import Derived.WalkLawsBesides
import Derived.BigQuiet
import Derived.WalkSmall
import Derived.Below
import Derived.Lib.IndexBytes
import Derived.Deep.QuietTactic
import Derived.Deep.RegionWith
import Derived.Lib.Hide
import Derived.Test.YtemkikpdmihmpaaDoorShelf
import Derived.Shelf.Strings.SlTrimAscii
import Derived.Laws.Runes
import Derived.Laws.RangeAny
import Derived.Lib.DecodeN
import Derived.Lib.OthersKept
import Derived.LoopIn
import Derived.WalkMore
import Derived.Deep.LoopGhost
namespace Go.Proofs.YtemkikpdmihmpaaDoor
open Go.RowKit

set_option maxHeartbeats 2000000 in
theorem decodeN_wide (n b0 b1 b2 b3 : Nat) (hn : 1 ≤ n) (h0 : 128 ≤ b0) (h1 : b0 < 256) :
    128 ≤ (Lib.decodeN n b0 b1 b2 b3).1 ∧ (Lib.decodeN n b0 b1 b2 b3).1 ≤ 1114111 ∧ ((Lib.decodeN n b0 b1 b2 b3).1 < 55296 ∨ 57343 < (Lib.decodeN n b0 b1 b2 b3).1) ∧ 1 ≤ (Lib.decodeN n b0 b1 b2 b3).2 ∧ (Lib.decodeN n b0 b1 b2 b3).2 ≤ 4 ∧ (Lib.decodeN n b0 b1 b2 b3).2 ≤ n ∧
    (2 ≤ (Lib.decodeN n b0 b1 b2 b3).2 → 128 ≤ b1) ∧ (3 ≤ (Lib.decodeN n b0 b1 b2 b3).2 → 128 ≤ b2) ∧ (4 ≤ (Lib.decodeN n b0 b1 b2 b3).2 → 128 ≤ b3) := by
  unfold Lib.decodeN
  repeat' split
  all_goals (simp only; omega)
theorem get_bang (s : ByteArray) (i : Nat) (h : i < s.size) : s.get! i = s[i] := by
  simp [ByteArray.get!, getElem!_pos, h]
  rfl
/-- A letter of more than one byte: its number, its width, and its bytes. -/
theorem wide_at (s : ByteArray) (i : Nat) (h : i < s.size) (hb : 128 ≤ s[i].toNat) :
    128 ≤ (Utf8.decode s i).1 ∧ (Utf8.decode s i).1 ≤ 1114111 ∧ ((Utf8.decode s i).1 < 55296 ∨ 57343 < (Utf8.decode s i).1) ∧ 1 ≤ (Utf8.decode s i).2 ∧ i + (Utf8.decode s i).2 ≤ s.size ∧ ∀ j (hj : j < s.size), i ≤ j → j < i + (Utf8.decode s i).2 → 128 ≤ s[j].toNat := by
  rw [Lib.decode_at]
  have h3 : 128 ≤ (s.get! i).toNat := by rw [get_bang s i h]; exact hb
  obtain ⟨q1, q2, q3, q4, q5, q6, q7, q8, q9⟩ := decodeN_wide (s.size - i) (s.get! i).toNat (s.get! (i + 1)).toNat (s.get! (i + 2)).toNat (s.get! (i + 3)).toNat (by omega) h3 (s.get! i).toNat_lt
  refine ⟨q1, q2, q3, q4, by omega, fun j hj h1 h2 => ?_⟩
  rw [← get_bang s j hj]
  rcases (by omega : j = i ∨ j = i + 1 ∨ j = i + 2 ∨ j = i + 3) with rfl | rfl | rfl | rfl
  · exact h3
  · exact q7 (by omega)
  · exact q8 (by omega)
  · exact q9 (by omega)
theorem three_none (c : UInt8) (h : 128 ≤ c.toNat) (l : List UInt8) (hl : ∀ b ∈ l, b.toNat < 128) : Lib.indexByte l c = -1 := by
  induction l with
  | nil => rfl
  | cons b l ih =>
    have hb := hl b (List.mem_cons_self ..)
    have hne : (b == c) = false := by
      rw [beq_eq_false_iff_ne]
      rintro rfl
      omega
    unfold Lib.indexByte
    rw [hne, ih (fun b hb => hl b (List.mem_cons_of_mem _ hb))]
    rfl

set_option maxRecDepth 100000 in
set_option maxHeartbeats 4000000 in
/-- A letter of more than one byte stands in no text of single ones. -/
theorem irune_wide (s : ByteArray) (hs : ∀ b ∈ s.data.toList, b.toNat < 128) (hsz : s.size ≤ 1000) (R : Nat) (w : World) (h1 : 128 ≤ R) (h2 : R ≤ 1114111) (h3 : R < 55296 ∨ 57343 < R) :
    Calls Tryd.prog 69 #[.string s, .int .i32 (R : Int)] w fun e w' => e = .returned (.int .i64 (-1)) ∧ Below w.heap.size w w' := by
  have hnot : decide ((R : Int) < 128) = false := decide_eq_false (by omega)
  by_cases he : R = 65533
  · have hq : ((R : Int) == 65533) = true := by rw [beq_iff_eq]; omega
    have Hs := Lib.hid hs
    clear hs he h2 h3
    go_enter Tryd.func69, Tryd.ntmps69
    go_wp2
    go_loopg [5, 6] s.size (fun g _ _ wx => ∃ i : Nat, i + g = s.size ∧ wx = w.iter s i)
    case atStart => exact ⟨0, by omega, rfl⟩
    case round =>
      obtain ⟨i, hig, rfl⟩ := hrel
      cases gk with
      | zero =>
        obtain rfl : i = s.size := by omega
        have hnx := run_next_end (P := Tryd.prog) w s s.size
        go_wp2
        go_ret
        exact ⟨rfl, (Below.refl _ _).alloc (Nat.le_refl _) _⟩
      | succ g =>
        have hi : i < s.size := by omega
        obtain ⟨x, hx⟩ : ∃ x : UInt8, s[i]'hi = x := ⟨_, rfl⟩
        have hx128 : x.toNat < 128 := Hs.out x (by rw [← hx]; exact Array.getElem_mem_toList (xs := s.data) hi)
        have hnx := fun ty => run_next_ascii (P := Tryd.prog) w s i ty hi (by rw [hx]; exact hx128)
        rw [hx] at hnx
        have hx6 : ((x.toNat : Int) == 65533) = false := by rw [beq_eq_false_iff_ne]; omega
        clear hx
        go_wp2
        go_roundg g
        case measure => omega
        case rel => exact ⟨i + 1, by omega, rfl⟩
  · have hq : ((R : Int) == 65533) = false := by rw [beq_eq_false_iff_ne]; omega
    have hval : Lib.validRune (R : Int) = true := by
      unfold Lib.validRune
      rw [decide_eq_true_eq]
      omega
    have hval2 : Utf8.valid (R : Int) = true := by
      rw [validRune_eq]
      unfold validRune
      rw [decide_eq_true_eq]
      omega
    obtain ⟨e1, e2, e3⟩ := encode_facts (R : Int) hval2 (by omega)
    have hvc := fun W => Tryd.utf8_ValidRune (R : Int) W
    rw [hval] at hvc
    obtain ⟨X, hX⟩ : ∃ X, Utf8.encode (R : Int) = X := ⟨_, rfl⟩
    rw [hX] at e1 e2 e3
    have hcv : ∀ W, (convert 21 9 (.int .i32 (R : Int))).run Tryd.prog W = .ok (.string X) W := fun W => by
      rw [run_convert_int_string W 21 9 .i32 (R : Int) (by kernel_rfl) Tryd.underlying9, hX]
    obtain ⟨k, hk1, hk2, hlt2, e4⟩ : ∃ k : Nat, k + 1 ≤ X.size ∧ X.size ≤ k + 1 ∧ ∃ h : k < X.size, 128 ≤ (X[k]'h).toNat := ⟨X.size - 1, by omega, by omega, by omega, e3 (by omega)⟩
    have hxk : ((X.size : Int) - 1) = (k : Int) := by omega
    obtain ⟨c, hc⟩ : ∃ c, X[k]'hlt2 = c := ⟨_, rfl⟩
    rw [hc] at e4
    have Hs := Lib.hid hs
    clear hs he h2 h3 hval hval2 hX e3
    go_enter Tryd.func69, Tryd.ntmps69
    go_wp2_with fail
    refine (hvc _).mono ?_
    rintro e w1 ⟨rfl, h9⟩
    obtain rfl := h9.symm
    clear h9 hvc
    go_wp2
    go_step3
    go_wp2
    go_loop [9] (fun iv => iv = .int .i64 (k : Int)) (fun _ => 0)
    case atStart => rfl
    case round =>
      obtain rfl := hrel
      by_cases hks : k < s.size
      · obtain ⟨x, hx⟩ : ∃ x : UInt8, s[k]'hks = x := ⟨_, rfl⟩
        have hx128 : x.toNat < 128 := Hs.out x (by rw [← hx]; exact Array.getElem_mem_toList (xs := s.data) hks)
        have hne : (((s[k]'hks).toNat : Int) != (c.toNat : Int)) = true := by rw [hx, bne_iff_ne]; omega
        have hib := fun W => Tryd.strings_IndexByte (s.extract (k + 1) s.size) (c.toNat : Int) W
        have hnn : Lib.indexByte (s.extract (k + 1) s.size).data.toList ((c.toNat : Int).toNat.toUInt8) = -1 :=
          three_none _ (by simpa using e4) _ (fun b hb => Hs.out b (mem_extract hb))
        rw [hnn] at hib
        have hwr : IntKind.i64.wrap ((k : Int) + 1) = (k : Int) + 1 := by rw [IntWalk.i64_in _ (by omega)]
        have hk1' : (0 : Int) ≤ (k : Int) + 1 := by omega
        have hk2' : (k : Int) + 1 ≤ (s.size : Int) := by omega
        clear hx hnn hx128
        go_wp2
        go_step3
        go_wp2_with fail
        go_quiet (fail)
        have hbq := below_drewN (Below.refl w.heap.size w) nq
        generalize w.drewN nq = wq at hbq ⊢
        go_wp2_with fail
        go_quiet (exact Calls.quiet_of_same (hib _))
        have hbr := below_drewN hbq nq
        clear hbq
        go_wp2
        rw [Exit.noGoto_ret]
        repeat (change Exit.noGoto (Exit.inBlock 0 _) Exit.ret _ _; rw [Exit.noGoto_ret])
        go_wp2
        go_ret
        exact ⟨rfl, hbr⟩
      · go_wp2
        go_ret
        exact ⟨rfl, Below.refl _ _⟩
theorem no_more {s chars : ByteArray} {i k : Nat} (hno : Lib.NoAny s.data.toList chars.data.toList i) (hk : i + k ≤ s.size) (h : ∀ j (hj : j < s.size), i ≤ j → j < i + k → 128 ≤ s[j].toNat) (hc : ∀ b ∈ chars.data.toList, b.toNat < 128) : Lib.NoAny s.data.toList chars.data.toList (i + k) := fun j b hj hb => by
  rcases Nat.lt_or_ge j i with h1 | h1
  · exact hno j b h1 hb
  · have hjs : j < s.size := by omega
    rw [Lib.data_getElem? s j hjs] at hb
    obtain rfl := Option.some.inj hb
    have h2 := h j hjs h1 hj
    cases hcc : chars.data.toList.contains s[j] with
    | false => rfl
    | true =>
      have := hc _ (List.contains_iff_mem.1 hcc)
      omega

set_option maxRecDepth 100000 in
set_option maxHeartbeats 4000000 in
/-- strings.IndexAny at bytes below 128, whatever the text. -/
theorem iany_any (s chars : ByteArray) (w : World) (h2 : 2 ≤ chars.size) (h3 : chars.size ≤ 1000) (hs : s.size < 4294967281) (hc : ∀ b ∈ chars.data.toList, b.toNat < 128) :
    Calls Tryd.prog 52 #[.string s, .string chars] w fun e w' => e = .returned (.int .i64 (Lib.indexAny s.data.toList chars.data.toList)) ∧ Below w.heap.size w w' := by
  by_cases h8 : 8 < s.size
  · refine (Tryd.strings_IndexAny_long (zero_of_info (n := 256) (by kernel_rfl)).1 s chars w h2 h8 hs (by omega) (fun j b hb => hc b (List.mem_of_getElem? hb))).mono ?_
    rintro e w' ⟨he, hw⟩
    refine ⟨he, ?_⟩
    rw [hw]
    exact ((Below.refl _ _).alloc (Nat.le_refl _) _).alloc (by simp) _
  · have hemp : chars.toList.isEmpty = false := by
      rw [Lib.toList_data]
      cases h : chars.data.toList with
      | nil => have := Lib.size_eq chars; rw [h, List.length_nil] at this; omega
      | cons _ _ => rfl
    have hn1 : ((chars.size : Int) == 1) = false := beq_eq_false_iff_ne.2 (by omega)
    have h8z : decide ((8 : Int) < (s.size : Int)) = false := decide_eq_false (by omega)
    have Hc := Lib.hid hc
    have hsa := fun W => Tryd.strings_shouldUseASCIISet (s.size : Int) W
    rw [h8z] at hsa
    clear hc
    go_enter Tryd.func52, Tryd.ntmps52
    go_wp2_with (go_at_call 70; refine (hsa _).mono ?_; rintro e w' ⟨rfl, h9⟩; obtain rfl := h9.symm)
    go_loopg [9, 10] s.size (fun g _ _ wx => ∃ i : Nat, wx.heap[w.heap.size]? = some (.stringIter s i) ∧ Below w.heap.size w wx ∧ Hid (Lib.NoAny s.data.toList chars.data.toList i) ∧ i + g = s.size)
    case atStart => exact ⟨0, World.iter_heap w s 0, (Below.refl _ w).alloc (Nat.le_refl _) _, Lib.hid (Lib.NoAny.zero _ _), by omega⟩
    case round =>
      obtain ⟨i, hit, hbw, hno, hig⟩ := hrel
      by_cases hps : i < s.size
      · have hnx : ∀ ty, (Instr.next (.pointer (some ⟨w.heap.size, 0, none⟩)) true ty).run Tryd.prog wr = _ := fun ty => Lib.run_next_any_at wr w.heap.size s i ty hit hps
        obtain ⟨x, hx⟩ : ∃ x : UInt8, s[i]'hps = x := ⟨_, rfl⟩
        have hxl : s.data.toList[i]? = some x := by rw [← hx]; exact Lib.data_getElem? s i hps
        by_cases hlo : x.toNat < 128
        · rw [decode_ascii s i hps (by rw [hx]; exact hlo), hx] at hnx
          have hit2 := Lib.iterAt_heap wr w.heap.size s i (i + 1) hit
          have hbw2 := Lib.below_iterAt hbw (k := w.heap.size) (Nat.le_refl _) s (i + 1)
          obtain ⟨W, hWd⟩ : ∃ W, wr.iterAt w.heap.size s (i + 1) = W := ⟨_, rfl⟩
          rw [hWd] at hnx hit2 hbw2
          have cS := Tryd.strings_IndexRune_ascii chars (x.toNat : Int) W (by omega) (by omega)
          rw [show ((x.toNat : Int)).toNat.toUInt8 = x by simp] at cS
          have hcon := Lib.contains_iff_indexByte chars.data.toList x
          cases hin : chars.data.toList.contains x
          · rw [hin] at hcon
            have hlt : ¬ ((0 : Int) ≤ Lib.indexByte chars.data.toList x) := of_decide_eq_false hcon.symm
            have Hn := Lib.hid (hno.out.succ hxl hin)
            clear hcon hx hxl hWd hno hin hit hbw
            go_wp2_with (go_at_call 69; refine cS.mono ?_; rintro e w' ⟨rfl, h9⟩; obtain rfl := h9.symm)
            go_roundg (s.size - (i + 1))
            case measure => omega
            case rel => exact ⟨i + 1, hit2, hbw2, Hn, by omega⟩
          · rw [hin] at hcon
            have hge : (0 : Int) ≤ Lib.indexByte chars.data.toList x := of_decide_eq_true hcon.symm
            have Hr := Lib.hid (Lib.indexAny_hit hno.out hxl hin)
            clear hcon hx hxl hWd hno hin hit hbw
            go_wp2_with (go_at_call 69; refine cS.mono ?_; rintro e w' ⟨rfl, h9⟩; obtain rfl := h9.symm)
            go_ret
            exact ⟨by rw [Hr.out]; rfl, hbw2⟩
        · obtain ⟨q1, q2, q3, q4, q5, q6⟩ := wide_at s i hps (by rw [hx]; omega)
          obtain ⟨R, hR⟩ : ∃ R, (Utf8.decode s i).1 = R := ⟨_, rfl⟩
          obtain ⟨K, hK⟩ : ∃ K, (Utf8.decode s i).2 = K := ⟨_, rfl⟩
          rw [hR] at q1 q2 q3
          rw [hK] at q4 q5 q6
          rw [hR, hK] at hnx
          have hit2 := Lib.iterAt_heap wr w.heap.size s i (i + K) hit
          have hbw2 := Lib.below_iterAt hbw (k := w.heap.size) (Nat.le_refl _) s (i + K)
          obtain ⟨W, hWd⟩ : ∃ W, wr.iterAt w.heap.size s (i + K) = W := ⟨_, rfl⟩
          rw [hWd] at hnx hit2 hbw2
          have cS := irune_wide chars Hc.out h3 R W q1 q2 q3
          have Hn := Lib.hid (no_more hno.out q5 q6 Hc.out)
          have hltW : w.heap.size < W.heap.size := (Array.getElem?_eq_some_iff.1 hit2).1
          clear hx hxl hWd hno hit hbw q1 q2 q3 q6 hR hK
          go_wp2_with (go_at_call 69; refine cS.mono ?_; rintro e w' ⟨rfl, hbc⟩)
          go_roundg (s.size - (i + K))
          case measure => omega
          case rel => exact ⟨i + K, (hbc.block _ hltW).trans hit2, hbw2.trans (hbc.mono hbw2.size), Hn, by omega⟩
      · have hnx : ∀ ty, (Instr.next (.pointer (some ⟨w.heap.size, 0, none⟩)) true ty).run Tryd.prog wr = _ := fun ty => Lib.run_next_end_at wr w.heap.size s i ty hit hps
        obtain rfl : i = s.size := by omega
        have Hr := Lib.hid (Lib.indexAny_none (by rw [← Lib.size_eq]; exact hno.out))
        clear hno hit
        go_wp2
        go_ret
        exact ⟨by rw [Hr.out]; rfl, hbw⟩
end Go.Proofs.YtemkikpdmihmpaaDoor
