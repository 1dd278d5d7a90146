/-
  CtypeLetters's closure: letters of a text made great, by a number's bits.
-/
import Derived.Test.YtafpifpgfpkckaaDoorC12P
import Derived.Test.YtafpifpgfpkckaaDoorRows
import Derived.Test.YtafpifpgfpkckaaDoorShelf
import Derived.Test.YtafpifpgfpkckaaDoorTurn
import Derived.Test.YtafpifpgfpkckaaDoorKept
import Derived.Test.YtafpifpgfpkckaaDoorUpRow
import Derived.WalkKit
import Derived.WalkSpells
import Derived.WalkLawsBesides
import Derived.BigQuiet
import Derived.WalkSmall
import Derived.Lib.Hide
namespace Go.Proofs.YtafpifpgfpkckaaDoor
open Go.RowKit

/-- Is a place's letter made great? -/
def bitC (fl : Int) (i : Nat) : Prop := (fl / 2 ^ (i % 64)).tmod 2 = 1
instance (fl : Int) (i : Nat) : Decidable (bitC fl i) := inferInstanceAs (Decidable ((fl / 2 ^ (i % 64)).tmod 2 = 1))
def greatC (c : UInt8) : UInt8 := if 97 ≤ c.toNat ∧ c.toNat ≤ 122 then c - 32 else c
def turnAt (fl : Int) (i : Nat) (c : UInt8) : UInt8 := if bitC fl i then greatC c else c
def turnC (fl : Int) (s : TextA) : TextA := s.mapIdx (turnAt fl)
/-- So many letters turned. -/
def turnsC (fl : Int) (k : Nat) (s : TextA) : TextA := (s.take k).mapIdx (turnAt fl) ++ s.drop k
theorem turns_len (fl : Int) (k : Nat) (s : TextA) : (turnsC fl k s).length = s.length := by
  unfold turnsC
  rw [List.length_append, List.length_mapIdx, List.length_take, List.length_drop]
  omega
theorem turns_zero (fl : Int) (s : TextA) : turnsC fl 0 s = s := rfl
theorem turns_all (fl : Int) (s : TextA) : turnsC fl s.length s = turnC fl s := by
  unfold turnsC turnC
  rw [List.take_length, List.drop_length, List.append_nil]
theorem turns_cut (fl : Int) (i : Nat) (s : TextA) (h : i < s.length) : turnsC fl i s = (s.take i).mapIdx (turnAt fl) ++ s[i] :: s.drop (i + 1) ∧ turnsC fl (i + 1) s = (s.take i).mapIdx (turnAt fl) ++ turnAt fl i s[i] :: s.drop (i + 1) := by
  unfold turnsC
  constructor
  · rw [← List.drop_eq_getElem_cons h]
  · rw [List.take_succ_eq_append_getElem h, List.mapIdx_append, List.append_assoc]
    congr 1
    rw [List.length_take, Nat.min_eq_left (Nat.le_of_lt h)]
    simp
theorem turns_get (fl : Int) (i : Nat) (s : TextA) (h : i < s.length) (h2 : i < (turnsC fl i s).length) : (turnsC fl i s)[i] = s[i] := by
  have e := (turns_cut fl i s h).1
  have hl : ((s.take i).mapIdx (turnAt fl)).length = i := by rw [List.length_mapIdx, List.length_take]; omega
  have : (turnsC fl i s)[i]? = some s[i] := by
    rw [e, List.getElem?_append_right (by omega), hl, Nat.sub_self]
    rfl
  rw [List.getElem?_eq_getElem h2] at this
  exact Option.some.inj this
theorem turns_set (fl : Int) (i : Nat) (s : TextA) (h : i < s.length) : (turnsC fl i s).set i (turnAt fl i s[i]) = turnsC fl (i + 1) s := by
  obtain ⟨e1, e2⟩ := turns_cut fl i s h
  have hl : ((s.take i).mapIdx (turnAt fl)).length = i := by rw [List.length_mapIdx, List.length_take]; omega
  rw [e1, e2, List.set_append_right _ _ (by omega), hl, Nat.sub_self]
  rfl
theorem turns_same (fl : Int) (i : Nat) (s : TextA) (h : i < s.length) (hu : turnAt fl i s[i] = s[i]) : turnsC fl (i + 1) s = turnsC fl i s := by
  obtain ⟨e1, e2⟩ := turns_cut fl i s h
  rw [e1, e2, hu]
theorem great_tok {c : UInt8} (h : tokC c = true) : inNameC (greatC c) = true ∧ Lib.lowerB (greatC c) = c := by
  have hd : ∀ n : Fin 256, tokC (UInt8.ofNat n.val) = true → inNameC (greatC (UInt8.ofNat n.val)) = true ∧ Lib.lowerB (greatC (UInt8.ofNat n.val)) = UInt8.ofNat n.val := by decide +kernel
  have := hd ⟨c.toNat, c.toNat_lt⟩
  rw [UInt8.ofNat_toNat] at this
  exact this h
theorem turn_tok (fl : Int) (i : Nat) {c : UInt8} (h : tokC c = true) : inNameC (turnAt fl i c) = true ∧ Lib.lowerB (turnAt fl i c) = c := by
  unfold turnAt
  split
  · exact great_tok h
  · exact ⟨tok_name h, tok_low h⟩
theorem map_idx_tok (g : Nat → UInt8 → UInt8) (hg : ∀ i c, tokC c = true → inNameC (g i c) = true ∧ Lib.lowerB (g i c) = c) : ∀ s : TextA, s.all tokC = true → (s.mapIdx g).all inNameC = true ∧ (s.mapIdx g).map Lib.lowerB = s := by
  intro s
  induction s generalizing g with
  | nil => intro _; exact ⟨rfl, rfl⟩
  | cons c s ih =>
    intro h
    rw [List.all_cons, Bool.and_eq_true] at h
    obtain ⟨a, b⟩ := ih (fun i => g (i + 1)) (fun i c hc => hg (i + 1) c hc) h.2
    obtain ⟨x, y⟩ := hg 0 c h.1
    rw [List.mapIdx_cons, List.all_cons, List.map_cons, x, y, a, b]
    exact ⟨rfl, rfl⟩
theorem turn_all (fl : Int) {s : TextA} (h : s.all tokC = true) : (turnC fl s).all inNameC = true ∧ (turnC fl s).map Lib.lowerB = s := map_idx_tok (turnAt fl) (fun i _ hc => turn_tok fl i hc) s h
theorem turn_len (fl : Int) (s : TextA) : (turnC fl s).length = s.length := by
  unfold turnC
  rw [List.length_mapIdx]

set_option maxRecDepth 100000 in
set_option maxHeartbeats 2000000 in
theorem cturn_any (fl : Int) (F : Nat) (s : ByteArray) (w : World) (hF : Boxed w F 44 (.int .u64 fl)) (hs : s.size ≤ 1000000) :
    Calls Tryd.prog 20 #[.string s, .pointer (some ⟨F, 0, none⟩)] w fun e w' => e = .returned (.string (textQ (turnC fl s.data.toList))) ∧ Below w.heap.size w w' := by
  obtain ⟨g, cap, fz, w1, hcv, hgB, hnc, hcm, hrow1, hw1⟩ := bytes_up w s hs
  have Hrow1 := Lib.hid hrow1
  unfold maxLen at hcm
  have HF := Lib.hid hF
  obtain ⟨R, hR⟩ : ∃ R, textQ (turnC fl s.data.toList) = R := ⟨_, rfl⟩
  rw [hR]
  have HR := Lib.hid hR
  clear hrow1 hF hR
  go_enter Tryd.func20, Tryd.ntmps20
  go_wp2
  go_loopw [5] (fun iv wr => ∃ i : Nat, i ≤ s.size ∧ iv = .int .i64 i ∧ Hid (UpRow wr g cap fz (turnsC fl i s.data.toList)) ∧ Below w.heap.size w wr) (fun iv _ => s.size - (intOf iv).toNat)
  case atStart => exact ⟨0, by omega, rfl, Hrow1, hw1⟩
  case round =>
    obtain ⟨i, hi, rfl, hrow, hbr⟩ := hrel
    have hnl : s.data.toList.length = s.size := rfl
    have c1 := (boxed_below HF.out hbr).cell
    by_cases hlt : i < s.size
    · have hup := turns_len fl i s.data.toList
      obtain ⟨hc, hfz⟩ := hrow.out.at i (by omega)
      rw [turns_get fl i _ (by omega) (by omega)] at hc
      have hset := turns_set fl i s.data.toList (by omega)
      have hsame := turns_same fl i s.data.toList (by omega)
      obtain ⟨c, hcc⟩ : ∃ c, s.data.toList[i]'(by omega) = c := ⟨_, rfl⟩
      rw [hcc] at hc hset hsame
      have Hset := Lib.hid hset
      have Hsame := Lib.hid hsame
      clear hset hsame hcc hup hnl Hrow1 hw1
      by_cases hb : bitC fl i
      · have ht : turnAt fl i c = greatC c := by unfold turnAt; rw [if_pos hb]
        by_cases h97 : 97 ≤ c.toNat
        · by_cases h122 : c.toNat ≤ 122
          · have hu : turnAt fl i c = c - 32 := by rw [ht]; unfold greatC; rw [if_pos ⟨h97, h122⟩]
            have hsub : IntKind.u8.wrap ((c.toNat : Int) - 32) = ((c - 32).toNat : Int) := by
              rw [IntKind.wrap_u8]
              have := UInt8.toNat_sub c 32
              have e32 : (32 : UInt8).toNat = 32 := rfl
              rw [e32] at this
              omega
            have hrow2 := hrow.out.set i (c - 32)
            rw [← hu, Hset.out, hu] at hrow2
            have Hrow2 := Lib.hid hrow2
            have hb2 : Below w.heap.size w (wr.setCell ⟨g, i, none⟩ (.int .u8 ((c - 32).toNat : Int))) := hbr.setCell (p := ⟨g, i, none⟩) hgB _
            unfold bitC at hb
            clear hrow2 hu ht
            go_wp2
            go_roundw
            case rel => exact ⟨i + 1, by omega, by go_num, Hrow2, hb2⟩
            case measure => simp [intOf]; omega
          · have hu : turnAt fl i c = c := by rw [ht]; unfold greatC; rw [if_neg (fun h => h122 h.2)]
            have Hrow2 := Lib.hid (show UpRow wr g cap fz (turnsC fl (i + 1) s.data.toList) by rw [Hsame.out hu]; exact hrow.out)
            unfold bitC at hb
            clear hu ht
            go_wp2
            go_roundw
            case rel => exact ⟨i + 1, by omega, by go_num, Hrow2, hbr⟩
            case measure => simp [intOf]; omega
        · have hu : turnAt fl i c = c := by rw [ht]; unfold greatC; rw [if_neg (fun h => h97 h.1)]
          have Hrow2 := Lib.hid (show UpRow wr g cap fz (turnsC fl (i + 1) s.data.toList) by rw [Hsame.out hu]; exact hrow.out)
          unfold bitC at hb
          clear hu ht
          go_wp2
          go_roundw
          case rel => exact ⟨i + 1, by omega, by go_num, Hrow2, hbr⟩
          case measure => simp [intOf]; omega
      · have hu : turnAt fl i c = c := by unfold turnAt; rw [if_neg hb]
        have Hrow2 := Lib.hid (show UpRow wr g cap fz (turnsC fl (i + 1) s.data.toList) by rw [Hsame.out hu]; exact hrow.out)
        unfold bitC at hb
        clear hu
        go_wp2
        go_roundw
        case rel => exact ⟨i + 1, by omega, by go_num, Hrow2, hbr⟩
        case measure => simp [intOf]; omega
    · obtain rfl : i = s.size := by omega
      have hcv2 : (convert 45 9 (.slice (some ⟨g, 0, none⟩) s.size cap)).run Tryd.prog wr = .ok (.string R) wr := by
        have := hrow.out.conv
        rw [turns_len, hnl] at this
        rw [this, ← HR.out, ← hnl, turns_all]
      clear hrow hnl
      go_wp2
      go_ret
      exact ⟨rfl, hbr⟩
end Go.Proofs.YtafpifpgfpkckaaDoor
