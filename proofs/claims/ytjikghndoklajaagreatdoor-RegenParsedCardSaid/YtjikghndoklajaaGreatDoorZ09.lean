/-
  Texts of this proof, put together: HdA, Iany, HdU.
-/
import Derived.Test.YtjikghndoklajaaGreatDoorZ06
import Derived.Test.YtjikghndoklajaaGreatDoorRows
import Derived.WalkKit
import Derived.WalkSpells
import Derived.WalkLawsBesides
import Derived.BigQuiet
import Derived.WalkSmall
import Derived.Below
import Derived.Lib.IndexBytes
import Derived.Deep.QuietTactic
import Derived.Deep.RegionWith
import Derived.Lib.Hide
import Derived.Test.YtjikghndoklajaaGreatDoorZ01
import Derived.Shelf.Strings.SlTrimAscii
import Derived.Laws.Runes
import Derived.Laws.RangeAny
import Derived.Lib.DecodeN
import Derived.Lib.OthersKept
import Derived.LoopIn
import Derived.WalkMore
import Derived.Deep.LoopGhost
namespace Go.Proofs.YtjikghndoklajaaGreatDoor
open Go.RowKit

theorem low_in {c : UInt8} (h : 65 ≤ c.toNat ∧ c.toNat ≤ 90) : ((lowH c).toNat : Int) = (c.toNat : Int) + 32 := by
  unfold lowH
  rw [if_pos h, UInt8.toNat_add]
  show (((c.toNat + 32) % 256 : Nat) : Int) = _
  omega
theorem low_out {c : UInt8} (h : ¬ (65 ≤ c.toNat ∧ c.toNat ≤ 90)) : lowH c = c := by
  unfold lowH
  rw [if_neg h]
theorem hlower_any (c : UInt8) (w : World) : Calls Tryz.prog 67 #[.int .u8 (c.toNat : Int)] w fun e w' => e = .returned (.int .u8 ((lowH c).toNat : Int)) ∧ w' = w := by
  have hcl : c.toNat < 256 := c.toNat_lt
  by_cases h1 : 65 ≤ c.toNat
  · by_cases h2 : c.toNat ≤ 90
    · rw [low_in ⟨h1, h2⟩]
      go_enter Tryz.func67, Tryz.ntmps67
      go_wp2
      go_ret
      exact ⟨rfl, rfl⟩
    · rw [low_out (by omega)]
      go_enter Tryz.func67, Tryz.ntmps67
      go_wp2
      go_ret
      exact ⟨rfl, rfl⟩
  · rw [low_out (by omega)]
    go_enter Tryz.func67, Tryz.ntmps67
    go_wp2
    go_ret
    exact ⟨rfl, rfl⟩
theorem blank_val (c : UInt8) : blankH c = decide (c.toNat = 32 ∨ c.toNat = 9) := by
  unfold blankH
  rw [Bool.eq_iff_iff, Bool.or_eq_true, beq_iff_eq, beq_iff_eq, decide_eq_true_eq, ← UInt8.toNat_inj, ← UInt8.toNat_inj]
  rfl
theorem same_step (a b : ByteArray) (i : Nat) (ha : i < a.size) (hb : i < b.size) (h : lowH a[i] ≠ lowH b[i]) : sameH a.data.toList b.data.toList = false := by
  unfold sameH
  rw [decide_eq_false_iff_not]
  intro e
  apply h
  have h1 : (a.data.toList.map lowH)[i]? = (b.data.toList.map lowH)[i]? := by rw [e]
  rw [List.getElem?_map, List.getElem?_map, Lib.data_getElem? a i ha, Lib.data_getElem? b i hb] at h1
  simpa using h1
theorem same_size (a b : ByteArray) (h : a.size ≠ b.size) : sameH a.data.toList b.data.toList = false := by
  unfold sameH
  rw [decide_eq_false_iff_not]
  intro e
  apply h
  have := congrArg List.length e
  simpa using this
theorem same_all (a b : ByteArray) (hs : a.size = b.size) (h : ∀ i (ha : i < a.size) (hb : i < b.size), lowH a[i] = lowH b[i]) : sameH a.data.toList b.data.toList = true := by
  unfold sameH
  rw [decide_eq_true_eq]
  refine List.ext_getElem (by simpa using hs) fun i h1 h2 => ?_
  have h3 : i < a.size := by simpa using h1
  have h4 : i < b.size := by simpa using h2
  rw [List.getElem_map, List.getElem_map]
  exact h i h3 h4


set_option maxRecDepth 100000 in
set_option maxHeartbeats 2000000 in
theorem hsame_any (a b : ByteArray) (w : World) (hs : a.size ≤ 1000000) (hs2 : b.size ≤ 1000000) : Calls Tryz.prog 40 #[.string a, .string b] w fun e w' => e = .returned (.bool (sameH a.data.toList b.data.toList)) ∧ Below w.heap.size w w' := by
  by_cases hsz : a.size = b.size
  · have hall := same_all a b hsz
    have hno := same_step a b
    have HA := Lib.hid hall
    have HN := Lib.hid hno
    have hsz2 : a.size ≤ b.size := by omega
    have hq : ((a.size : Int) != (b.size : Int)) = false := by rw [bne_eq_false_iff_eq]; omega
    have Hsz := Lib.hid hsz
    clear hall hno hsz
    go_enter Tryz.func40, Tryz.ntmps40
    go_wp2
    go_loopw [13] (fun iv wr => ∃ i : Nat, i ≤ a.size ∧ iv = .int .i64 i ∧ Hid (∀ j (ha : j < a.size) (hb : j < b.size), j < i → lowH a[j] = lowH b[j]) ∧ Below w.heap.size w wr) (fun iv _ => a.size - (intOf iv).toNat)
    case atStart => exact ⟨0, by omega, rfl, Lib.hid (fun j _ _ h => by omega), Below.refl _ _⟩
    case round =>
      obtain ⟨i, hi, rfl, hj, hbr⟩ := hrel
      by_cases hlt : i < a.size
      · have hlb : i < b.size := by omega
        have hla := fun W => hlower_any a[i] W
        have hlo := fun W => hlower_any b[i] W
        have hno := HN.out i hlt hlb
        have hyes : lowH a[i] = lowH b[i] → ∀ j (ha : j < a.size) (hb : j < b.size), j < i + 1 → lowH a[j] = lowH b[j] := fun h j h1 h2 h3 => by
          rcases Nat.lt_or_ge j i with h4 | h4
          · exact hj.out j h1 h2 h4
          · obtain rfl : j = i := by omega
            exact h
        obtain ⟨x, hx⟩ : ∃ x, lowH a[i] = x := ⟨_, rfl⟩
        obtain ⟨y, hy⟩ : ∃ y, lowH b[i] = y := ⟨_, rfl⟩
        rw [hx] at hla
        rw [hy] at hlo
        rw [hx, hy] at hno hyes
        clear hx hy hj
        by_cases he : x = y
        · have Hy := Lib.hid (hyes he)
          have hne : ((x.toNat : Int) != (y.toNat : Int)) = false := by rw [he, bne_eq_false_iff_eq]
          clear hno hyes he
          go_wp2_with fail
          go_quiet (first | (with_reducible exact Calls.quiet_of_same (hla _)) | (with_reducible exact Calls.quiet_of_same (hlo _)))
          have hb2 := below_drewN hbr nq
          clear hbr
          go_wp2
          go_roundw
          case rel => exact ⟨i + 1, by omega, by go_num, Hy, hb2⟩
          case measure => simp [intOf]; omega
        · have Hy := Lib.hid (hno he)
          have hne : ((x.toNat : Int) != (y.toNat : Int)) = true := by
            rw [bne_iff_ne]
            exact fun e => he (UInt8.toNat_inj.1 (by omega))
          clear hno hyes he
          go_wp2_with fail
          go_quiet (first | (with_reducible exact Calls.quiet_of_same (hla _)) | (with_reducible exact Calls.quiet_of_same (hlo _)))
          have hb2 := below_drewN hbr nq
          clear hbr
          go_wp2
          go_ret
          exact ⟨by rw [Hy.out]; rfl, hb2⟩
      · have Hy := Lib.hid (HA.out fun j h1 h2 => hj.out j h1 h2 (by omega))
        clear hj
        go_wp2
        go_ret
        exact ⟨by rw [Hy.out]; rfl, hbr⟩
  · have hq : ((a.size : Int) != (b.size : Int)) = true := by rw [bne_iff_ne]; omega
    have Hy := Lib.hid (same_size a b hsz)
    clear hsz
    go_enter Tryz.func40, Tryz.ntmps40
    go_wp2
    go_ret
    exact ⟨by rw [Hy.out]; rfl, Below.refl _ _⟩

def nameC (c : UInt8) : Bool := decide (33 ≤ c.toNat ∧ c.toNat ≤ 126 ∧ c ≠ 58)
def nameB (n : TextH) : Bool := decide (1 ≤ n.length ∧ n.length ≤ 64) && n.all nameC
def bodyC (c : UInt8) : Bool := decide (c ≠ 0 ∧ c ≠ 10 ∧ c ≠ 13)
def bodyB (b : TextH) : Bool := b.all bodyC && (!(goesH b) && !(goesH b.reverse))
theorem right_two (f : FieldH) : rightB f = (nameB f.1 && bodyB f.2) := by
  unfold rightB nameB bodyB nameC bodyC
  rw [Bool.and_assoc]
theorem all_bytes {p : UInt8 → Bool} (s : ByteArray) (h : ∀ i (hi : i < s.size), p s[i] = true) : s.data.toList.all p = true := by
  rw [List.all_eq_true]
  intro c hc
  obtain ⟨i, hi, rfl⟩ := List.mem_iff_getElem.1 hc
  exact h i (by simpa using hi)
theorem not_bytes {p : UInt8 → Bool} (s : ByteArray) (i : Nat) (hi : i < s.size) (h : p s[i] = false) : s.data.toList.all p = false := by
  rw [List.all_eq_false]
  exact ⟨s[i], by
    have : s[i] = s.data.toList[i]'(by simpa using hi) := rfl
    rw [this]
    exact List.getElem_mem _, by rw [h]; simp⟩
theorem nameC_yes {c : UInt8} (h1 : 33 ≤ c.toNat) (h2 : c.toNat ≤ 126) (h3 : c.toNat ≠ 58) : nameC c = true := by
  unfold nameC
  rw [decide_eq_true_eq]
  exact ⟨h1, h2, fun e => h3 (by rw [e]; rfl)⟩
theorem nameC_no {c : UInt8} (h : c.toNat < 33 ∨ 126 < c.toNat ∨ c.toNat = 58) : nameC c = false := by
  unfold nameC
  rw [decide_eq_false_iff_not]
  rintro ⟨h1, h2, h3⟩
  rcases h with h | h | h
  · omega
  · omega
  · exact h3 (UInt8.toNat_inj.1 h)
theorem bytes_len (s : ByteArray) : s.data.toList.length = s.size := rfl

set_option maxRecDepth 100000 in
set_option maxHeartbeats 2000000 in
theorem hname_any (s : ByteArray) (w : World) : Calls Tryz.prog 85 #[.string s] w fun e w' => e = .returned (.bool (nameB s.data.toList)) ∧ w' = w := by
  by_cases hsz : 1 ≤ s.size ∧ s.size ≤ 64
  · have hall : (∀ i (hi : i < s.size), nameC s[i] = true) → nameB s.data.toList = true := fun h => by
      unfold nameB
      rw [all_bytes s h, bytes_len, decide_eq_true hsz]
      rfl
    have hno : ∀ i (hi : i < s.size), nameC s[i] = false → nameB s.data.toList = false := fun i hi h => by
      unfold nameB
      rw [not_bytes s i hi h, Bool.and_false]
    have HA := Lib.hid hall
    have HN := Lib.hid hno
    obtain ⟨hs1, hs2⟩ := hsz
    clear hall hno
    go_enter Tryz.func85, Tryz.ntmps85
    go_wp2
    go_loop [14] (fun iv => ∃ i : Nat, i ≤ s.size ∧ iv = .int .i64 i ∧ Hid (∀ j (ha : j < s.size), j < i → nameC s[j] = true)) (fun iv => s.size - (intOf iv).toNat)
    case atStart => exact ⟨0, by omega, rfl, Lib.hid (fun j _ h => by omega)⟩
    case round =>
      obtain ⟨i, hi, rfl, hj⟩ := hrel
      by_cases hlt : i < s.size
      · have hno := HN.out i hlt
        have hyes : nameC s[i] = true → ∀ j (ha : j < s.size), j < i + 1 → nameC s[j] = true := fun h j h1 h3 => by
          rcases Nat.lt_or_ge j i with h4 | h4
          · exact hj.out j h1 h4
          · obtain rfl : j = i := by omega
            exact h
        have Hyes := Lib.hid hyes
        have Hno := Lib.hid hno
        clear hyes hno hj
        by_cases g1 : s[i].toNat < 33
        · have Hr := Lib.hid (Hno.out (nameC_no (.inl g1)))
          have f1 : decide ((s[i].toNat : Int) < 33) = true := decide_eq_true (by omega)
          clear g1 Hno Hyes
          go_wp2
          go_ret
          exact ⟨by rw [Hr.out]; rfl, rfl⟩
        · have f1 : decide ((s[i].toNat : Int) < 33) = false := decide_eq_false (by omega)
          by_cases g2 : 126 < s[i].toNat
          · have Hr := Lib.hid (Hno.out (nameC_no (.inr (.inl g2))))
            have f2 : decide ((126 : Int) < (s[i].toNat : Int)) = true := decide_eq_true (by omega)
            clear g1 g2 Hno Hyes
            go_wp2
            go_ret
            exact ⟨by rw [Hr.out]; rfl, rfl⟩
          · have f2 : decide ((126 : Int) < (s[i].toNat : Int)) = false := decide_eq_false (by omega)
            by_cases g3 : s[i].toNat = 58
            · have Hr := Lib.hid (Hno.out (nameC_no (.inr (.inr g3))))
              have f3 : ((s[i].toNat : Int) == 58) = true := by rw [beq_iff_eq]; omega
              clear g1 g2 g3 Hno Hyes
              go_wp2
              go_ret
              exact ⟨by rw [Hr.out]; rfl, rfl⟩
            · have Hr := Lib.hid (Hyes.out (nameC_yes (by omega) (by omega) g3))
              have f3 : ((s[i].toNat : Int) == 58) = false := by rw [beq_eq_false_iff_ne]; omega
              clear g1 g2 g3 Hno Hyes
              go_wp2
              go_round
              case rel => exact ⟨i + 1, by omega, by go_num, Hr⟩
              case measure => simp [intOf]; omega
      · have Hy := Lib.hid (HA.out fun j h1 => hj.out j h1 (by omega))
        clear hj
        go_wp2
        go_ret
        exact ⟨by rw [Hy.out]; rfl, rfl⟩
  · have Hr : Hid (nameB s.data.toList = false) := Lib.hid (by
      unfold nameB
      rw [bytes_len, decide_eq_false hsz]
      rfl)
    by_cases h0 : s.size < 1
    · clear hsz
      go_enter Tryz.func85, Tryz.ntmps85
      go_wp2
      go_ret
      exact ⟨by rw [Hr.out]; rfl, rfl⟩
    · have h1 : 64 < s.size := by omega
      clear hsz
      go_enter Tryz.func85, Tryz.ntmps85
      go_wp2
      go_ret
      exact ⟨by rw [Hr.out]; rfl, rfl⟩
end Go.Proofs.YtjikghndoklajaaGreatDoor
namespace Go.Proofs.YtjikghndoklajaaGreatDoor
open Go.RowKit

set_option maxHeartbeats 2000000 in
theorem decodeN_wide (n b0 b1 b2 b3 : Nat) (hn : 1 ≤ n) (h0 : 128 ≤ b0) (h1 : b0 < 256) :
    128 ≤ (Lib.decodeN n b0 b1 b2 b3).1 ∧ (Lib.decodeN n b0 b1 b2 b3).1 ≤ 1114111 ∧ ((Lib.decodeN n b0 b1 b2 b3).1 < 55296 ∨ 57343 < (Lib.decodeN n b0 b1 b2 b3).1) ∧ 1 ≤ (Lib.decodeN n b0 b1 b2 b3).2 ∧ (Lib.decodeN n b0 b1 b2 b3).2 ≤ 4 ∧ (Lib.decodeN n b0 b1 b2 b3).2 ≤ n ∧
    (2 ≤ (Lib.decodeN n b0 b1 b2 b3).2 → 128 ≤ b1) ∧ (3 ≤ (Lib.decodeN n b0 b1 b2 b3).2 → 128 ≤ b2) ∧ (4 ≤ (Lib.decodeN n b0 b1 b2 b3).2 → 128 ≤ b3) := by
  unfold Lib.decodeN
  repeat' split
  all_goals (simp only; omega)
theorem get_bang (s : ByteArray) (i : Nat) (h : i < s.size) : s.get! i = s[i] := by
  simp [ByteArray.get!, getElem!_pos, h]
  rfl
theorem wide_at (s : ByteArray) (i : Nat) (h : i < s.size) (hb : 128 ≤ s[i].toNat) :
    128 ≤ (Utf8.decode s i).1 ∧ (Utf8.decode s i).1 ≤ 1114111 ∧ ((Utf8.decode s i).1 < 55296 ∨ 57343 < (Utf8.decode s i).1) ∧ 1 ≤ (Utf8.decode s i).2 ∧ i + (Utf8.decode s i).2 ≤ s.size ∧ ∀ j (hj : j < s.size), i ≤ j → j < i + (Utf8.decode s i).2 → 128 ≤ s[j].toNat := by
  rw [Lib.decode_at]
  have h3 : 128 ≤ (s.get! i).toNat := by rw [get_bang s i h]; exact hb
  obtain ⟨q1, q2, q3, q4, q5, q6, q7, q8, q9⟩ := decodeN_wide (s.size - i) (s.get! i).toNat (s.get! (i + 1)).toNat (s.get! (i + 2)).toNat (s.get! (i + 3)).toNat (by omega) h3 (s.get! i).toNat_lt
  refine ⟨q1, q2, q3, q4, by omega, fun j hj h1 h2 => ?_⟩
  rw [← get_bang s j hj]
  rcases (by omega : j = i ∨ j = i + 1 ∨ j = i + 2 ∨ j = i + 3) with rfl | rfl | rfl | rfl
  · exact h3
  · exact q7 (by omega)
  · exact q8 (by omega)
  · exact q9 (by omega)
theorem three_none (c : UInt8) (h : 128 ≤ c.toNat) (l : List UInt8) (hl : ∀ b ∈ l, b.toNat < 128) : Lib.indexByte l c = -1 := by
  induction l with
  | nil => rfl
  | cons b l ih =>
    have hb := hl b (List.mem_cons_self ..)
    have hne : (b == c) = false := by
      rw [beq_eq_false_iff_ne]
      rintro rfl
      omega
    unfold Lib.indexByte
    rw [hne, ih (fun b hb => hl b (List.mem_cons_of_mem _ hb))]
    rfl

set_option maxRecDepth 100000 in
set_option maxHeartbeats 4000000 in
theorem irune_wide (s : ByteArray) (hs : ∀ b ∈ s.data.toList, b.toNat < 128) (_hsz : s.size ≤ 1000) (R : Nat) (w : World) (h1 : 128 ≤ R) (h2 : R ≤ 1114111) (h3 : R < 55296 ∨ 57343 < R) :
    Calls Tryz.prog 175 #[.string s, .int .i32 (R : Int)] w fun e w' => e = .returned (.int .i64 (-1)) ∧ Below w.heap.size w w' := by
  have hnot : decide ((R : Int) < 128) = false := decide_eq_false (by omega)
  by_cases he : R = 65533
  · have hq : ((R : Int) == 65533) = true := by rw [beq_iff_eq]; omega
    have Hs := Lib.hid hs
    clear hs he h2 h3
    go_enter Tryz.func175, Tryz.ntmps175
    go_wp2
    go_loopg [5, 6] s.size (fun g _ _ wx => ∃ i : Nat, i + g = s.size ∧ wx = w.iter s i)
    case atStart => exact ⟨0, by omega, rfl⟩
    case round =>
      obtain ⟨i, hig, rfl⟩ := hrel
      cases gk with
      | zero =>
        obtain rfl : i = s.size := by omega
        have hnx := run_next_end (P := Tryz.prog) w s s.size
        go_wp2
        go_ret
        exact ⟨rfl, (Below.refl _ _).alloc (Nat.le_refl _) _⟩
      | succ g =>
        have hi : i < s.size := by omega
        obtain ⟨x, hx⟩ : ∃ x : UInt8, s[i]'hi = x := ⟨_, rfl⟩
        have hx128 : x.toNat < 128 := Hs.out x (by rw [← hx]; exact Array.getElem_mem_toList (xs := s.data) hi)
        have hnx := fun ty => run_next_ascii (P := Tryz.prog) w s i ty hi (by rw [hx]; exact hx128)
        rw [hx] at hnx
        have hx6 : ((x.toNat : Int) == 65533) = false := by rw [beq_eq_false_iff_ne]; omega
        clear hx
        go_wp2
        go_roundg g
        case measure => omega
        case rel => exact ⟨i + 1, by omega, rfl⟩
  · have hq : ((R : Int) == 65533) = false := by rw [beq_eq_false_iff_ne]; omega
    have hval : Lib.validRune (R : Int) = true := by
      unfold Lib.validRune
      rw [decide_eq_true_eq]
      omega
    have hval2 : Utf8.valid (R : Int) = true := by
      rw [validRune_eq]
      unfold validRune
      rw [decide_eq_true_eq]
      omega
    obtain ⟨e1, e2, e3⟩ := encode_facts (R : Int) hval2 (by omega)
    have hvc := fun W => Tryz.utf8_ValidRune (R : Int) W
    rw [hval] at hvc
    obtain ⟨X, hX⟩ : ∃ X, Utf8.encode (R : Int) = X := ⟨_, rfl⟩
    rw [hX] at e1 e2 e3
    have hcv : ∀ W, (convert 21 9 (.int .i32 (R : Int))).run Tryz.prog W = .ok (.string X) W := fun W => by
      rw [run_convert_int_string W 21 9 .i32 (R : Int) (by kernel_rfl) Tryz.underlying9, hX]
    obtain ⟨k, hk1, hk2, hlt2, e4⟩ : ∃ k : Nat, k + 1 ≤ X.size ∧ X.size ≤ k + 1 ∧ ∃ h : k < X.size, 128 ≤ (X[k]'h).toNat := ⟨X.size - 1, by omega, by omega, by omega, e3 (by omega)⟩
    have hxk : ((X.size : Int) - 1) = (k : Int) := by omega
    obtain ⟨c, hc⟩ : ∃ c, X[k]'hlt2 = c := ⟨_, rfl⟩
    rw [hc] at e4
    have Hs := Lib.hid hs
    clear hs he h2 h3 hval hval2 hX e3
    go_enter Tryz.func175, Tryz.ntmps175
    go_wp2_with fail
    refine (hvc _).mono ?_
    rintro e w1 ⟨rfl, h9⟩
    obtain rfl := h9.symm
    clear h9 hvc
    go_wp2
    go_step3
    go_wp2
    go_loop [9] (fun iv => iv = .int .i64 (k : Int)) (fun _ => 0)
    case atStart => rfl
    case round =>
      obtain rfl := hrel
      by_cases hks : k < s.size
      · obtain ⟨x, hx⟩ : ∃ x : UInt8, s[k]'hks = x := ⟨_, rfl⟩
        have hx128 : x.toNat < 128 := Hs.out x (by rw [← hx]; exact Array.getElem_mem_toList (xs := s.data) hks)
        have hne : (((s[k]'hks).toNat : Int) != (c.toNat : Int)) = true := by rw [hx, bne_iff_ne]; omega
        have hib := fun W => Tryz.strings_IndexByte (s.extract (k + 1) s.size) (c.toNat : Int) W
        have hnn : Lib.indexByte (s.extract (k + 1) s.size).data.toList ((c.toNat : Int).toNat.toUInt8) = -1 :=
          three_none _ (by simpa using e4) _ (fun b hb => Hs.out b (mem_extract hb))
        rw [hnn] at hib
        have hwr : IntKind.i64.wrap ((k : Int) + 1) = (k : Int) + 1 := by rw [IntWalk.i64_in _ (by omega)]
        have hk1' : (0 : Int) ≤ (k : Int) + 1 := by omega
        have hk2' : (k : Int) + 1 ≤ (s.size : Int) := by omega
        clear hx hnn hx128
        go_wp2
        go_step3
        go_wp2_with fail
        go_quiet (fail)
        have hbq := below_drewN (Below.refl w.heap.size w) nq
        generalize w.drewN nq = wq at hbq ⊢
        go_wp2_with fail
        go_quiet (exact Calls.quiet_of_same (hib _))
        have hbr := below_drewN hbq nq
        clear hbq
        go_wp2
        rw [Exit.noGoto_ret]
        repeat (change Exit.noGoto (Exit.inBlock 0 _) Exit.ret _ _; rw [Exit.noGoto_ret])
        go_wp2
        go_ret
        exact ⟨rfl, hbr⟩
      · go_wp2
        go_ret
        exact ⟨rfl, Below.refl _ _⟩
theorem no_more {s chars : ByteArray} {i k : Nat} (hno : Lib.NoAny s.data.toList chars.data.toList i) (hk : i + k ≤ s.size) (h : ∀ j (hj : j < s.size), i ≤ j → j < i + k → 128 ≤ s[j].toNat) (hc : ∀ b ∈ chars.data.toList, b.toNat < 128) : Lib.NoAny s.data.toList chars.data.toList (i + k) := fun j b hj hb => by
  rcases Nat.lt_or_ge j i with h1 | h1
  · exact hno j b h1 hb
  · have hjs : j < s.size := by omega
    rw [Lib.data_getElem? s j hjs] at hb
    obtain rfl := Option.some.inj hb
    have h2 := h j hjs h1 hj
    cases hcc : chars.data.toList.contains s[j] with
    | false => rfl
    | true =>
      have := hc _ (List.contains_iff_mem.1 hcc)
      omega

set_option maxRecDepth 100000 in
set_option maxHeartbeats 4000000 in
theorem iany_any (s chars : ByteArray) (w : World) (h2 : 2 ≤ chars.size) (h3 : chars.size ≤ 1000) (hs : s.size < 4294967281) (hc : ∀ b ∈ chars.data.toList, b.toNat < 128) :
    Calls Tryz.prog 156 #[.string s, .string chars] w fun e w' => e = .returned (.int .i64 (Lib.indexAny s.data.toList chars.data.toList)) ∧ Below w.heap.size w w' := by
  by_cases h8 : 8 < s.size
  · refine (Tryz.strings_IndexAny_long (zero_of_info (n := 256) (by kernel_rfl)).1 s chars w h2 h8 hs (by omega) (fun j b hb => hc b (List.mem_of_getElem? hb))).mono ?_
    rintro e w' ⟨he, hw⟩
    refine ⟨he, ?_⟩
    rw [hw]
    exact ((Below.refl _ _).alloc (Nat.le_refl _) _).alloc (by simp) _
  · have hemp : chars.toList.isEmpty = false := by
      rw [Lib.toList_data]
      cases h : chars.data.toList with
      | nil => have := Lib.size_eq chars; rw [h, List.length_nil] at this; omega
      | cons _ _ => rfl
    have hn1 : ((chars.size : Int) == 1) = false := beq_eq_false_iff_ne.2 (by omega)
    have h8z : decide ((8 : Int) < (s.size : Int)) = false := decide_eq_false (by omega)
    have Hc := Lib.hid hc
    have hsa := fun W => Tryz.strings_shouldUseASCIISet (s.size : Int) W
    rw [h8z] at hsa
    clear hc
    go_enter Tryz.func156, Tryz.ntmps156
    go_wp2_with (go_at_call 176; refine (hsa _).mono ?_; rintro e w' ⟨rfl, h9⟩; obtain rfl := h9.symm)
    go_loopg [9, 10] s.size (fun g _ _ wx => ∃ i : Nat, wx.heap[w.heap.size]? = some (.stringIter s i) ∧ Below w.heap.size w wx ∧ Hid (Lib.NoAny s.data.toList chars.data.toList i) ∧ i + g = s.size)
    case atStart => exact ⟨0, World.iter_heap w s 0, (Below.refl _ w).alloc (Nat.le_refl _) _, Lib.hid (Lib.NoAny.zero _ _), by omega⟩
    case round =>
      obtain ⟨i, hit, hbw, hno, hig⟩ := hrel
      by_cases hps : i < s.size
      · have hnx : ∀ ty, (Instr.next (.pointer (some ⟨w.heap.size, 0, none⟩)) true ty).run Tryz.prog wr = _ := fun ty => Lib.run_next_any_at wr w.heap.size s i ty hit hps
        obtain ⟨x, hx⟩ : ∃ x : UInt8, s[i]'hps = x := ⟨_, rfl⟩
        have hxl : s.data.toList[i]? = some x := by rw [← hx]; exact Lib.data_getElem? s i hps
        by_cases hlo : x.toNat < 128
        · rw [decode_ascii s i hps (by rw [hx]; exact hlo), hx] at hnx
          have hit2 := Lib.iterAt_heap wr w.heap.size s i (i + 1) hit
          have hbw2 := Lib.below_iterAt hbw (k := w.heap.size) (Nat.le_refl _) s (i + 1)
          obtain ⟨W, hWd⟩ : ∃ W, wr.iterAt w.heap.size s (i + 1) = W := ⟨_, rfl⟩
          rw [hWd] at hnx hit2 hbw2
          have cS := Tryz.strings_IndexRune_ascii chars (x.toNat : Int) W (by omega) (by omega)
          rw [show ((x.toNat : Int)).toNat.toUInt8 = x by simp] at cS
          have hcon := Lib.contains_iff_indexByte chars.data.toList x
          cases hin : chars.data.toList.contains x
          · rw [hin] at hcon
            have hlt : ¬ ((0 : Int) ≤ Lib.indexByte chars.data.toList x) := of_decide_eq_false hcon.symm
            have Hn := Lib.hid (hno.out.succ hxl hin)
            clear hcon hx hxl hWd hno hin hit hbw
            go_wp2_with (go_at_call 175; refine cS.mono ?_; rintro e w' ⟨rfl, h9⟩; obtain rfl := h9.symm)
            go_roundg (s.size - (i + 1))
            case measure => omega
            case rel => exact ⟨i + 1, hit2, hbw2, Hn, by omega⟩
          · rw [hin] at hcon
            have hge : (0 : Int) ≤ Lib.indexByte chars.data.toList x := of_decide_eq_true hcon.symm
            have Hr := Lib.hid (Lib.indexAny_hit hno.out hxl hin)
            clear hcon hx hxl hWd hno hin hit hbw
            go_wp2_with (go_at_call 175; refine cS.mono ?_; rintro e w' ⟨rfl, h9⟩; obtain rfl := h9.symm)
            go_ret
            exact ⟨by rw [Hr.out]; rfl, hbw2⟩
        · obtain ⟨q1, q2, q3, q4, q5, q6⟩ := wide_at s i hps (by rw [hx]; omega)
          obtain ⟨R, hR⟩ : ∃ R, (Utf8.decode s i).1 = R := ⟨_, rfl⟩
          obtain ⟨K, hK⟩ : ∃ K, (Utf8.decode s i).2 = K := ⟨_, rfl⟩
          rw [hR] at q1 q2 q3
          rw [hK] at q4 q5 q6
          rw [hR, hK] at hnx
          have hit2 := Lib.iterAt_heap wr w.heap.size s i (i + K) hit
          have hbw2 := Lib.below_iterAt hbw (k := w.heap.size) (Nat.le_refl _) s (i + K)
          obtain ⟨W, hWd⟩ : ∃ W, wr.iterAt w.heap.size s (i + K) = W := ⟨_, rfl⟩
          rw [hWd] at hnx hit2 hbw2
          have cS := irune_wide chars Hc.out h3 R W q1 q2 q3
          have Hn := Lib.hid (no_more hno.out q5 q6 Hc.out)
          have hltW : w.heap.size < W.heap.size := (Array.getElem?_eq_some_iff.1 hit2).1
          clear hx hxl hWd hno hit hbw q1 q2 q3 q6 hR hK
          go_wp2_with (go_at_call 175; refine cS.mono ?_; rintro e w' ⟨rfl, hbc⟩)
          go_roundg (s.size - (i + K))
          case measure => omega
          case rel => exact ⟨i + K, (hbc.block _ hltW).trans hit2, hbw2.trans (hbc.mono hbw2.size), Hn, by omega⟩
      · have hnx : ∀ ty, (Instr.next (.pointer (some ⟨w.heap.size, 0, none⟩)) true ty).run Tryz.prog wr = _ := fun ty => Lib.run_next_end_at wr w.heap.size s i ty hit hps
        obtain rfl : i = s.size := by omega
        have Hr := Lib.hid (Lib.indexAny_none (by rw [← Lib.size_eq]; exact hno.out))
        clear hno hit
        go_wp2
        go_ret
        exact ⟨by rw [Hr.out]; rfl, hbw⟩
end Go.Proofs.YtjikghndoklajaaGreatDoor
namespace Go.Proofs.YtjikghndoklajaaGreatDoor
open Go.RowKit

def threeH : ByteArray := ⟨#[0, 13, 10]⟩
set_option maxRecDepth 100000 in
theorem cany_any (s : ByteArray) (w : World) (hs : s.size < 4294967281) :
    Calls Tryz.prog 122 #[.string s, .string threeH] w fun e w' => e = .returned (.bool (Lib.containsAny s.data.toList [0, 13, 10])) ∧ Below w.heap.size w w' := by
  have c := iany_any s threeH w (by decide) (by decide) hs (by decide)
  rw [show threeH.data.toList = [0, 13, 10] from rfl] at c
  go_enter Tryz.func122, Tryz.ntmps122
  go_wp2_with (go_at_call 156; refine c.mono ?_; rintro e w' ⟨rfl, hw⟩)
  go_ret
  exact ⟨rfl, hw⟩
end Go.Proofs.YtjikghndoklajaaGreatDoor
