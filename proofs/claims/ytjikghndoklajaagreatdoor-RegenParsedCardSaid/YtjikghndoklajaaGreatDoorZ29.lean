/-
  Texts of this proof, put together: Q5D.
-/
import Derived.Test.YtjikghndoklajaaGreatDoorZ28
import Derived.Deep.QuietTactic
import Derived.Deep.RegionWith
import Derived.BigQuiet
import Derived.Lib.Builder
import Derived.Laws.Bits
namespace Go.Proofs.YtjikghndoklajaaGreatDoor
open Go.RowKit

theorem or_i64 (a b : Nat) (ha : a < 16) (hb : b < 16) : bits .or .i64 ((a : Int) * 16) (b : Int) = ((16 * a + b : Nat) : Int) := by
  have hw : ∀ n : Int, 0 ≤ n → n < 2 ^ 8 → IntKind.i64.wrap n = n := fun n h0 h1 => by rw [IntKind.wrap_i64]; omega
  rw [bits_join .i64 8 (by decide) hw 4 ((a : Int) * 16) b (by omega) (by omega) (by omega) (by omega) (by omega) (by omega)]
  push_cast
  omega
theorem byte_conv (n : Nat) (h : n < 256) : ((n : Int) % 256) = ((UInt8.ofNat n).toNat : Int) := by
  rw [UInt8.toNat_ofNat_of_lt' (by show n < 256; omega)]
  omega

def cutV (r : Option (List UInt8 × List UInt8)) : Value := match r with
  | some (p, r) => .tuple #[.string ⟨p.toArray⟩, .string ⟨r.toArray⟩, .bool true]
  | none => .tuple #[.string ⟨#[]⟩, .string ⟨#[]⟩, .bool false]

theorem drop_text' (s : ByteArray) (k : Nat) : s.data.toList.drop k = (s.extract k s.size).data.toList := (Lib.extract_to_end s k).symm
theorem trim_pre {l p : List UInt8} (h : List.isPrefixOf p l = true) : Lib.trimPrefix l p = l.drop p.length := by
  unfold Lib.trimPrefix Lib.hasPrefix
  rw [h]
  simp

set_option maxRecDepth 100000 in
set_option maxHeartbeats 4000000 in
theorem cut_anyQ (s : ByteArray) (w : World) (h1 : 1 ≤ s.size) (hs : s.size ≤ 1000000) :
    Calls Tryz.prog 113 #[.string s] w fun e w' => (e = .returned (cutV (cutQ s.data.toList)) ∨ (cutQ s.data.toList = none ∧ ∃ p r, e = .returned (.tuple #[p, r, .bool false]))) ∧ Below w.heap.size w w' := by
  have c1 := Tryz.strings_CutPrefix s ⟨#[13, 10]⟩
  have c2 := Tryz.strings_CutPrefix s ⟨#[61, 13, 10]⟩
  rw [show (⟨#[13, 10]⟩ : ByteArray).data.toList = [13, 10] from rfl] at c1
  rw [show (⟨#[61, 13, 10]⟩ : ByteArray).data.toList = [61, 13, 10] from rfl] at c2
  have hbw := Below.refl w.heap.size w
  have hsl : s.data.toList.length = s.size := rfl
  have hI1 : (1 : Int) ≤ (s.size : Int) := by omega
  have hN0 : 0 < s.size := by omega
  by_cases p1 : List.isPrefixOf [13, 10] s.data.toList = true
  · have e0 : cutQ s.data.toList = some ([13, 10], s.data.toList.drop 2) := by unfold cutQ; rw [if_pos p1]
    have e1 : Lib.hasPrefix s.data.toList [13, 10] = true := p1
    rw [trim_pre p1, e1] at c1
    rw [e0]
    show Calls _ _ _ _ fun e w' => (e = .returned (.tuple #[.string ⟨#[13, 10]⟩, .string ⟨(s.data.toList.drop 2).toArray⟩, .bool true]) ∨ _) ∧ _
    obtain ⟨R, hR⟩ : ∃ R : ByteArray, (⟨(s.data.toList.drop 2).toArray⟩ : ByteArray) = R := ⟨_, rfl⟩
    rw [show ([13, 10] : List UInt8).length = 2 from rfl, hR] at c1
    rw [hR]
    clear e0 e1 p1 hR c2 hsl
    go_enter Tryz.func113, Tryz.ntmps113
    go_wp2_with (go_at_call 59; refine (c1 _).mono ?_; rintro e w2 ⟨rfl, rfl⟩)
    go_ret3
    exact ⟨.inl rfl, hbw⟩
  · have e1 : Lib.hasPrefix s.data.toList [13, 10] = false := by
      exact Bool.eq_false_iff.2 p1
    rw [e1] at c1
    obtain ⟨T, hT⟩ : ∃ T : ByteArray, (⟨(Lib.trimPrefix s.data.toList [13, 10]).toArray⟩ : ByteArray) = T := ⟨_, rfl⟩
    rw [hT] at c1
    clear hT
    by_cases p2 : List.isPrefixOf [61, 13, 10] s.data.toList = true
    · have e0 : cutQ s.data.toList = some ([], s.data.toList.drop 3) := by unfold cutQ; rw [if_neg p1, if_pos p2]
      have e2 : Lib.hasPrefix s.data.toList [61, 13, 10] = true := p2
      rw [trim_pre p2, e2] at c2
      rw [e0]
      show Calls _ _ _ _ fun e w' => (e = .returned (.tuple #[.string ⟨#[]⟩, .string ⟨(s.data.toList.drop 3).toArray⟩, .bool true]) ∨ _) ∧ _
      obtain ⟨R, hR⟩ : ∃ R : ByteArray, (⟨(s.data.toList.drop 3).toArray⟩ : ByteArray) = R := ⟨_, rfl⟩
      rw [show ([61, 13, 10] : List UInt8).length = 3 from rfl, hR] at c2
      rw [hR]
      clear e0 e1 e2 p1 p2 hR hsl
      go_enter Tryz.func113, Tryz.ntmps113
      go_wp2_with (first | (go_at_call_of 59 (Value.string ⟨#[13, 10]⟩); refine (c1 _).mono ?_; rintro e w2 ⟨rfl, rfl⟩) | (go_at_call_of 59 (Value.string ⟨#[61, 13, 10]⟩); refine (c2 _).mono ?_; rintro e w2 ⟨rfl, rfl⟩))
      go_ret3
      exact ⟨.inl rfl, hbw⟩
    · have e2 : Lib.hasPrefix s.data.toList [61, 13, 10] = false := Bool.eq_false_iff.2 p2
      rw [e2] at c2
      obtain ⟨U, hU⟩ : ∃ U : ByteArray, (⟨(Lib.trimPrefix s.data.toList [61, 13, 10]).toArray⟩ : ByteArray) = U := ⟨_, rfl⟩
      rw [hU] at c2
      clear hU e1 e2
      have hdr : s.data.toList = s[0] :: s.data.toList.drop 1 := by
        have := List.drop_eq_getElem_cons (l := s.data.toList) (i := 0) (by rw [hsl]; omega)
        rw [List.drop_zero] at this
        exact this
      obtain ⟨c, hc⟩ : ∃ c, s[0] = c := ⟨_, rfl⟩
      rw [hc] at hdr
      have hst := stands_any c false
      by_cases h61 : c ≠ 61
      · have e3' : ((c.toNat : Int) != 61) = true := by rw [bne_iff_ne]; intro e; exact h61 (UInt8.toNat_inj.1 (by have : (61 : UInt8).toNat = 61 := rfl; omega))
        have e3 : ((c.toNat : Int) != (((⟨#[61]⟩ : ByteArray)[0]'(by decide)).toNat : Int)) = true := e3'
        have e0 : cutQ s.data.toList = (if plainQ c false then some ([c], s.data.toList.drop 1) else none) := by
          unfold cutQ
          rw [if_neg p1, if_neg p2, hdr]
          simp only [List.drop_succ_cons, List.drop_zero]
          rw [if_pos h61]
        rw [drop_text' s 1] at e0
        obtain ⟨R, hR⟩ : ∃ R : ByteArray, s.extract 1 s.size = R := ⟨_, rfl⟩
        have hX : s.extract 0 1 = ⟨#[c]⟩ := by
          rw [← take_extractQ, hdr]
          rfl
        rw [hR] at e0
        have E0 := Lib.hid e0
        clear e0 p1 p2 hdr hsl h61 e3'
        go_enter Tryz.func113, Tryz.ntmps113
        go_wp2_with (first | (go_at_call_of 59 (Value.string ⟨#[13, 10]⟩); refine (c1 _).mono ?_; rintro e w2 ⟨rfl, rfl⟩) | (go_at_call_of 59 (Value.string ⟨#[61, 13, 10]⟩); refine (c2 _).mono ?_; rintro e w2 ⟨rfl, rfl⟩))
        go_quiet (fail)
        have hbq := below_drewN hbw nq
        generalize w2.drewN nq = wq at hbq ⊢
        go_wp2
        go_quiet (first | (go_at_call 149; exact Calls.quiet_of_same (hst _)))
        go_wp2
        go_ret3
        refine ⟨?_, below_drewN hbq _⟩
        cases hp : plainQ c false with
        | true =>
          left
          rw [E0.out, hp, if_pos rfl]
          rfl
        | false =>
          right
          exact ⟨by rw [E0.out, hp, if_neg (by simp)], _, _, rfl⟩
      · have h61 : c = 61 := by simpa using h61
        have e3 : ((c.toNat : Int) != (((⟨#[61]⟩ : ByteArray)[0]'(by decide)).toNat : Int)) = false := by rw [h61]; rfl
        by_cases h3 : s.size < 3
        · have e0 : cutQ s.data.toList = none := by
            have hlen := hsl
            rw [hdr, List.length_cons] at hlen
            unfold cutQ
            rw [if_neg p1, if_neg p2, hdr, h61]
            simp only [ne_eq, not_true, if_false]
            match hr : s.data.toList.drop 1 with
            | [] => rfl
            | [_] => rfl
            | _ :: _ :: _ => rw [hr] at hlen; simp at hlen; omega
          have E0 := Lib.hid e0
          clear e0 p1 p2 hdr hsl h61 hst
          go_enter Tryz.func113, Tryz.ntmps113
          go_wp2_with (first | (go_at_call_of 59 (Value.string ⟨#[13, 10]⟩); refine (c1 _).mono ?_; rintro e w2 ⟨rfl, rfl⟩) | (go_at_call_of 59 (Value.string ⟨#[61, 13, 10]⟩); refine (c2 _).mono ?_; rintro e w2 ⟨rfl, rfl⟩))
          go_quiet (fail)
          go_wp2
          go_ret3
          exact ⟨.inl (by rw [E0.out]; rfl), below_drewN hbw _⟩
        · have hd2 : s.data.toList = (61 : UInt8) :: s[1] :: s[2] :: s.data.toList.drop 3 := by
            rw [h61] at hdr
            have a1 := List.drop_eq_getElem_cons (l := s.data.toList) (i := 1) (by rw [hsl]; omega)
            have a2 := List.drop_eq_getElem_cons (l := s.data.toList) (i := 2) (by rw [hsl]; omega)
            rw [a1, a2] at hdr
            exact hdr
          obtain ⟨x, hx⟩ : ∃ x, s[1] = x := ⟨_, rfl⟩
          obtain ⟨y, hy⟩ : ∃ y, s[2] = y := ⟨_, rfl⟩
          rw [hx, hy] at hd2
          have e0 : cutQ s.data.toList = twoQ (undigB x) (undigB y) (s.data.toList.drop 3) := by
            have key : ∀ r, ¬ List.isPrefixOf [61, 13, 10] (61 :: x :: y :: r) = true → cutQ (61 :: x :: y :: r) = twoQ (undigB x) (undigB y) r := fun r hp => by
              unfold cutQ
              rw [if_neg (by simp [List.isPrefixOf]), if_neg hp]
              simp only [ne_eq, not_true, if_false]
            rw [hd2] at p2
            have := key _ p2
            rw [← hd2] at this
            exact this
          rw [drop_text' s 3] at e0
          obtain ⟨R, hR⟩ : ∃ R : ByteArray, s.extract 3 s.size = R := ⟨_, rfl⟩
          rw [hR] at e0
          have hi := fun (c : UInt8) W => Tryz.strings_IndexByte ⟨#[48, 49, 50, 51, 52, 53, 54, 55, 56, 57, 65, 66, 67, 68, 69, 70]⟩ (c.toNat : Int) W
          have hdi : ∀ c : UInt8, Lib.indexByte (⟨#[48, 49, 50, 51, 52, 53, 54, 55, 56, 57, 65, 66, 67, 68, 69, 70]⟩ : ByteArray).data.toList ((c.toNat : Int).toNat.toUInt8) = digI (undigB c) := fun c => by
            rw [← digit_index c]
            simp
          have hi1 := hi x
          have hi2 := hi y
          rw [hdi] at hi1 hi2
          have hN1 : 1 < s.size := by omega
          have hN2 : 2 < s.size := by omega
          have hI3 : (3 : Int) ≤ (s.size : Int) := by omega
          cases hu : undigB x with
          | none =>
            rw [hu] at hi1 e0
            simp only [digI] at hi1
            have E0 := Lib.hid e0
            obtain ⟨q, hq⟩ : ∃ q : Int, digI (undigB y) = q := ⟨_, rfl⟩
            rw [hq] at hi2
            clear hq e0 p1 p2 hdr h61 hst hd2 hi hdi hu
            go_enter Tryz.func113, Tryz.ntmps113
            go_wp2_with (first | (go_at_call_of 59 (Value.string ⟨#[13, 10]⟩); refine (c1 _).mono ?_; rintro e w2 ⟨rfl, rfl⟩) | (go_at_call_of 59 (Value.string ⟨#[61, 13, 10]⟩); refine (c2 _).mono ?_; rintro e w2 ⟨rfl, rfl⟩))
            go_quiet (fail)
            have hbq := below_drewN hbw nq
            generalize w2.drewN nq = wq at hbq ⊢
            go_wp2
            go_quiet (first | (go_at_call_of 150 (Value.int IntKind.u8 (x.toNat : Int)); exact Calls.quiet_of_same (hi1 _)) | (go_at_call_of 150 (Value.int IntKind.u8 (y.toNat : Int)); exact Calls.quiet_of_same (hi2 _)))
            go_wp2
            go_ret3
            exact ⟨.inl (by rw [E0.out]; rfl), below_drewN hbq _⟩
          | some a =>
            have ha := (dig_undig hu).1
            rw [hu] at hi1 e0
            simp only [digI] at hi1
            cases hv : undigB y with
            | none =>
              rw [hv] at hi2 e0
              simp only [digI] at hi2
              have E0 := Lib.hid e0
              clear e0 p1 p2 hdr h61 hst hd2 hi hdi hu hv
              go_enter Tryz.func113, Tryz.ntmps113
              go_wp2_with (first | (go_at_call_of 59 (Value.string ⟨#[13, 10]⟩); refine (c1 _).mono ?_; rintro e w2 ⟨rfl, rfl⟩) | (go_at_call_of 59 (Value.string ⟨#[61, 13, 10]⟩); refine (c2 _).mono ?_; rintro e w2 ⟨rfl, rfl⟩))
              go_quiet (fail)
              have hbq := below_drewN hbw nq
              generalize w2.drewN nq = wq at hbq ⊢
              go_wp2
              go_quiet (first | (go_at_call_of 150 (Value.int IntKind.u8 (x.toNat : Int)); exact Calls.quiet_of_same (hi1 _)) | (go_at_call_of 150 (Value.int IntKind.u8 (y.toNat : Int)); exact Calls.quiet_of_same (hi2 _)))
              go_wp2
              go_ret3
              exact ⟨.inl (by rw [E0.out]; rfl), below_drewN hbq _⟩
            | some b =>
              have hb := (dig_undig hv).1
              rw [hv] at hi2 e0
              simp only [digI] at hi2
              have hor := or_i64 a b ha hb
              have hcv := byte_conv (16 * a + b) (by omega)
              rw [twoQ] at e0
              obtain ⟨z, hz⟩ : ∃ z, UInt8.ofNat (16 * a + b) = z := ⟨_, rfl⟩
              rw [hz] at e0 hcv
              have E0 := Lib.hid e0
              have Hcv := Lib.hid hcv
              clear e0 p1 p2 hdr h61 hst hd2 hi hdi hu hv hcv hz
              go_enter Tryz.func113, Tryz.ntmps113
              go_wp2_with (first | (go_at_call_of 59 (Value.string ⟨#[13, 10]⟩); refine (c1 _).mono ?_; rintro e w2 ⟨rfl, rfl⟩) | (go_at_call_of 59 (Value.string ⟨#[61, 13, 10]⟩); refine (c2 _).mono ?_; rintro e w2 ⟨rfl, rfl⟩))
              go_quiet (fail)
              have hbq := below_drewN hbw nq
              generalize w2.drewN nq = wq at hbq ⊢
              go_wp2
              go_quiet (first | (go_at_call_of 150 (Value.int IntKind.u8 (x.toNat : Int)); exact Calls.quiet_of_same (hi1 _)) | (go_at_call_of 150 (Value.int IntKind.u8 (y.toNat : Int)); exact Calls.quiet_of_same (hi2 _)))
              have hbr := below_drewN hbq nq
              generalize wq.drewN nq = wr at hbr ⊢
              have v1 := conv_one z wr.drew
              have v3 : (convert 96 9 (.slice (some ⟨wr.heap.size, 0, none⟩) 1 1)).run Tryz.prog (wr.alloc (.cells #[.int .u8 (z.toNat : Int)] 5)).drew = .ok (.string ⟨#[z]⟩) (wr.alloc (.cells #[.int .u8 (z.toNat : Int)] 5)).drew := v1
              have hcv : IntKind.u8.wrap (bits BinOp.or IntKind.i64 (IntKind.i64.wrap ((a : Int) * 16)) (b : Int)) = (z.toNat : Int) := by
                rw [show IntKind.i64.wrap ((a : Int) * 16) = (a : Int) * 16 by rw [IntKind.wrap_i64]; omega, hor, IntKind.wrap_u8]
                exact Hcv.out
              clear hi1 hi2 c1 c2 v1 hor
              go_wp2
              go_region_with (fail)
              all_goals
                (try go_wp2)
                go_ret3
                exact ⟨.inl (by rw [E0.out]; rfl), (hbr.alloc (by have := hbr.size; omega) _).drew⟩

theorem text_bytesQ (t : ByteArray) : t.toList = t.data.toList := by
  cases t with
  | mk d => cases d with
    | mk l => simp
def strLenQ (v : Value) : Nat := match v with
  | .string s => s.size
  | _ => 0
def readV (r : Option (List UInt8)) : Value := match r with
  | some l => .tuple #[.string ⟨l.toArray⟩, .bool true]
  | none => .tuple #[.string ⟨#[]⟩, .bool false]

set_option maxRecDepth 100000 in
set_option maxHeartbeats 4000000 in
theorem read_any (s : ByteArray) (w : World) (hs : s.size ≤ 1000000) :
    Calls Tryz.prog 77 #[.string s] w fun e w' => e = .returned (readV (readQ s.data.toList)) ∧ Below w.heap.size w w' := by
  have hbf := Lib.fresh_isBuilder 113 5 w
  have hbw := (Below.refl w.heap.size w).alloc (Nat.le_refl _) (.cells #[.pointer none, .slice none 0 0] 113)
  obtain ⟨r, hr⟩ : ∃ r, readQ s.data.toList = r := ⟨_, rfl⟩
  rw [hr]
  have Hr := Lib.hid hr
  clear hr
  go_enter Tryz.func77, Tryz.ntmps77
  go_wp2
  go_loopw [0, 5, 6, 7] (fun sv _ _ _ wr => ∃ (cur : ByteArray) (acc : List UInt8), sv = .string cur ∧ cur.size + acc.length ≤ s.size ∧ Lib.IsBuilder 113 5 w.heap.size w.heap.size (Lib.byteCells acc) wr ∧ Below w.heap.size w wr ∧
      r = (readQ cur.data.toList).map (acc ++ ·)) (fun sv _ _ _ _ => strLenQ sv)
  case atStart => exact ⟨s, [], rfl, by simp, hbf, hbw, by rw [Hr.out]; cases r <;> rfl⟩
  case round =>
    obtain ⟨cur, acc, rfl, hla, hbd, hbr, hst⟩ := hrel
    have hbz := hbr.size
    by_cases h0 : cur.size = 0
    · have hce : cur.data.toList = [] := List.eq_nil_of_length_eq_zero h0
      have hce2 : cur = ⟨#[]⟩ := ByteArray.ext (Array.ext' hce)
      subst hce2
      rw [hce, readQ_nil, Option.map_some, List.append_nil] at hst
      have hstr := Tryz.Builder_String_any w.heap.size w.heap.size acc wr hbd hbz
      have Hst := Lib.hid hst
      clear hce hst h0
      go_wp2_with (go_at_call 76; refine hstr.mono ?_)
      rintro e w2 ⟨rfl, hw2⟩
      go_wp2
      go_ret2
      exact ⟨by rw [Hst.out]; rfl, hbr.trans hw2⟩
    · have hne : (cur.toList == []) = false := by
        rw [text_bytesQ, beq_eq_false_iff_ne]
        intro e
        exact h0 (by have := congrArg List.length e; exact this)
      have hnl : cur.data.toList ≠ [] := fun e => h0 (by have := congrArg List.length e; exact this)
      have hcut := cut_anyQ cur wr (by omega) (by omega)
      have hcl : cur.data.toList.length = cur.size := rfl
      cases hc : cutQ cur.data.toList with
      | none =>
        rw [readQ_none hnl hc, Option.map_none] at hst
        rw [hc] at hcut
        have Hst := Lib.hid hst
        clear hst hnl hc hcl
        have hcut2 : Calls Tryz.prog 113 #[.string cur] wr fun e w' => (∃ p q, e = .returned (.tuple #[p, q, .bool false])) ∧ Below wr.heap.size wr w' := hcut.mono fun e w' ⟨he, hw⟩ => ⟨by
          rcases he with rfl | ⟨_, p, q, rfl⟩
          · exact ⟨_, _, rfl⟩
          · exact ⟨_, _, rfl⟩, hw⟩
        clear hcut
        go_wp2_with (go_at_call 113; refine hcut2.mono ?_; rintro e w2 ⟨⟨p, q, rfl⟩, hw2⟩)
        go_ret2
        exact ⟨by rw [Hst.out]; rfl, hbr.trans (hw2.mono (by omega))⟩
      | some pq =>
        obtain ⟨p, q⟩ := pq
        have hll := cut_len hc
        rw [hcl] at hll
        rw [readQ_cut hc] at hst
        rw [hc] at hcut
        obtain ⟨X, hX⟩ : ∃ X : ByteArray, (⟨p.toArray⟩ : ByteArray) = X := ⟨_, rfl⟩
        obtain ⟨Y, hY⟩ : ∃ Y : ByteArray, (⟨q.toArray⟩ : ByteArray) = Y := ⟨_, rfl⟩
        have hXl : X.data.toList = p := by rw [← hX]
        have hXs : X.size = p.length := by rw [← hX]; rfl
        have hYl : Y.data.toList = q := by rw [← hY]
        have hYs : Y.size = q.length := by rw [← hY]; rfl
        unfold cutV at hcut
        simp only [hX, hY] at hcut
        have Hst : Hid (r = (readQ Y.data.toList).map ((acc ++ p) ++ ·)) := Lib.hid (by
          rw [hst, hYl]
          cases readQ q <;> simp)
        have hle : Y.size + (acc ++ p).length ≤ s.size := by rw [List.length_append]; omega
        have hlt : Y.size < cur.size := by omega
        have hxb : acc.length + X.size ≤ 140737488355328 := by omega
        have hcx : Lib.byteCells acc ++ Lib.strCells X = Lib.byteCells (acc ++ p) := by rw [← hXl, Lib.byteCells_append]; rfl
        have Hcx := Lib.hid hcx
        clear hst hnl hc hcl hll hX hY hXl hXs hYl hYs hcx
        have hcut2 : Calls Tryz.prog 113 #[.string cur] wr fun e w' => e = .returned (.tuple #[.string X, .string Y, .bool true]) ∧ Below wr.heap.size wr w' := hcut.mono fun e w' ⟨he, hw⟩ => ⟨by
          rcases he with rfl | ⟨h, _⟩
          · rfl
          · exact absurd h (by simp), hw⟩
        clear hcut
        have HB := Lib.hid hbd
        clear hbd
        go_wp2_with (go_at_call 113; refine hcut2.mono ?_)
        rintro e w2 ⟨rfl, hw2⟩
        have hbd := HB.out
        have hbw2 := bwrite_any w.heap.size w.heap.size (Lib.byteCells acc) X w2 (isbuilder_below hbd hw2) (by rw [Lib.byteCells_length]; exact hxb) (by have := hw2.size; omega)
        rw [Hcx.out] at hbw2
        have hb2 := hbr.trans (hw2.mono (show w.heap.size ≤ wr.heap.size by omega))
        clear hcut2 hw2 hbd HB
        go_wp2_with (go_at_call 74; refine hbw2.mono ?_; rintro e w4 ⟨rfl, hb4, hw4⟩)
        exact ⟨⟨Y, acc ++ p, rfl, hle, .inr hb4, hb2.trans hw4, Hst.out⟩, by unfold strLenQ; simp only; exact hlt⟩
end Go.Proofs.YtjikghndoklajaaGreatDoor
