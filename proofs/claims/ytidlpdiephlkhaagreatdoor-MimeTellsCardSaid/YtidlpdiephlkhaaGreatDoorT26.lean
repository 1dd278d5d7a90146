/-
  Texts of this proof, put together: R4D, Q5D.
-/
import Derived.Test.YtidlpdiephlkhaaGreatDoorT25
import Derived.Deep.QuietTactic
import Derived.Deep.RegionWith
import Derived.BigQuiet
import Derived.Lib.Builder
import Derived.Test.YtidlpdiephlkhaaGreatDoorT24
import Derived.Laws.Bits
namespace Go.Proofs.YtidlpdiephlkhaaGreatDoor
open Go.RowKit

/-- What reading hands back. -/
def decV4 (r : Option (List UInt8)) : Value := match r with
  | some l => .tuple #[.string ⟨l.toArray⟩, .int .i64 0]
  | none => .tuple #[.string ⟨#[]⟩, .int .i64 2]
theorem bytes_ne4 {a b : ByteArray} (h : a ≠ b) : (a.toList == b.toList) = false := by
  have e : ∀ t : ByteArray, t.toList = t.data.toList := fun t => by
    cases t with
    | mk d => cases d with
      | mk l => simp
  simp only [e, beq_eq_false_iff_ne, ne_eq]
  exact fun e => h (ByteArray.ext (Array.ext' e))
theorem un_short {r : List UInt8} (h : r.length < 2) : unQ (61 :: r) = none := by
  match r, h with
  | [], _ => rfl
  | [_], _ => rfl
theorem un_dig (x y : UInt8) (r : List UInt8) (h : ¬ (x = 13 ∧ y = 10)) : unQ (61 :: x :: y :: r) = (match undigB x, undigB y with
    | some a, some b => (unQ r).map (UInt8.ofNat (16 * a + b) :: ·)
    | _, _ => none) := by
  rw [unQ.eq_def]
  simp only
  rw [if_neg (by simp), if_neg h]
  rfl

set_option maxRecDepth 100000 in
set_option maxHeartbeats 4000000 in
theorem r4dec_any (s : ByteArray) (w : World) (hs : s.size < 100000) :
    Calls Tryz.prog 64 #[.string s] w fun e w' => e = .returned (decV4 (decQ s.data.toList)) ∧ Below w.heap.size w w' := by
  obtain ⟨i0, hi, hz0, hz1, hz2⟩ := info_parts infoB4
  have hown0 : w.ownsRow w.heap.size 5 1 (.slice none 0 0) ([] : List UInt8).length (Lib.byteCells []) := World.ownsRow_nil _ _ _ _
  have Hl : Hid (s.data.toList.length = s.size) := Lib.hid rfl
  have HD : Hid (decQ s.data.toList = (match unQ s.data.toList with
      | some r => if encQ r = s.data.toList then some r else none
      | none => none)) := Lib.hid rfl
  go_enter Tryz.func64, Tryz.ntmps64
  go_wp2
  go_loopw [4, 5, 6, 7] (fun o iv _ _ wr => ∃ (i : Nat) (out : List UInt8) (vo : Value), i ≤ s.size ∧ iv = .int .i64 i ∧ o = vo ∧ out.length ≤ i ∧ wr.ownsRow w.heap.size 5 1 vo out.length (Lib.byteCells out) ∧ Below w.heap.size w wr ∧ unQ s.data.toList = (unQ (s.data.toList.drop i)).map (out ++ ·)) (fun _ iv _ _ _ => s.size - (intOf iv).toNat)
  case atStart => exact ⟨0, [], _, Nat.zero_le _, rfl, rfl, Nat.le_refl _, hown0, Below.refl _ _, by rw [List.drop_zero]; cases unQ s.data.toList <;> rfl⟩
  case round =>
    obtain ⟨i, out, vo, hi1, rfl, hvo, hol, hown, hbr, hst⟩ := hrel
    subst hvo
    have hbz := hbr.size
    by_cases hlt : i < s.size
    · have hdr : s.data.toList.drop i = s[i] :: s.data.toList.drop (i + 1) := by
        rw [List.drop_eq_getElem_cons (by rw [Hl.out]; exact hlt)]
        rfl
      obtain ⟨c, hc⟩ : ∃ c, s[i] = c := ⟨_, rfl⟩
      rw [hc] at hdr
      have hcl : c.toNat < 256 := c.toNat_lt
      rw [hdr] at hst
      by_cases hp : c ≠ 61
      · have hn : unQ s.data.toList = (unQ (s.data.toList.drop (i + 1))).map ((out ++ [c]) ++ ·) := by
          rw [hst, un_plain hp]
          cases unQ (s.data.toList.drop (i + 1)) <;> simp
        have h61 : ((c.toNat : Int) != 61) = true := by
          rw [bne_iff_ne]
          intro e
          exact hp (UInt8.toNat_inj.1 (by have : (61 : UInt8).toNat = 61 := rfl; omega))
        have Hn := Lib.hid hn
        have hown2 := hown.alloc (.cells #[.int .u8 (c.toNat : Int)] 5)
        clear hn hst hdr hp
        go_wp2_with (at_builtin; refine wpList_append_own _ rfl _ _ 67 rfl w.heap.size 5 i0 (.int .u8 0) 1 1 Tryz.underlying67 hi hz0 hz1 hz2 rfl (by decide) _ out.length _ rfl hown2 ⟨wr.heap.size, 0, none⟩ 1 1 [.int .u8 (c.toNat : Int)] rfl rfl ?n1 ?n2 ?n3 ?n4 ?n5 ?_)
        case n1 =>
          intro j u hj
          rw [Addr.add_lit]
          match j, hj with
          | 0, hj =>
            simp at hj
            subst hj
            go_simp
          | j + 1, hj => simp at hj
        case n2 =>
          intro u hu
          simp at hu
          subst hu
          rfl
        case n3 => unfold maxLen; omega
        case n4 => omega
        case n5 => simp; omega
        intro v' w3 hown3 hgrow3 _
        have hb3 : Below w.heap.size w w3 := (hbr.alloc hbz _).grown hgrow3 (by simp; omega) fun k hk => (hown2.lt k hk).1
        go_wp2
        go_roundw
        case rel => exact ⟨i + 1, out ++ [c], _, by omega, by go_num, rfl, by simp; omega, by rw [Lib.byteCells_append, List.length_append]; exact hown3, hb3, Hn.out⟩
        case measure => simp [intOf]; omega
      · have hc61 : c = 61 := Classical.byContradiction hp
        have h61 : ((c.toNat : Int) != 61) = false := by rw [hc61]; rfl
        rw [hc61] at hst
        clear hp
        by_cases hshort : s.size ≤ i + 2
        · have hno : unQ s.data.toList = none := by
            rw [hst, un_short (by rw [List.length_drop, Hl.out]; omega)]
            rfl
          have Hno := Lib.hid hno
          clear hno hst hdr hc61
          go_wp2
          go_ret2
          exact ⟨by rw [HD.out, Hno.out]; rfl, hbr⟩
        · have hd1 : s.data.toList.drop (i + 1) = s[i + 1] :: s[i + 2] :: s.data.toList.drop (i + 3) := by
            rw [List.drop_eq_getElem_cons (by rw [Hl.out]; omega), List.drop_eq_getElem_cons (by rw [Hl.out]; omega)]
            rfl
          rw [hd1] at hst
          obtain ⟨x, hx⟩ : ∃ x, s[i + 1] = x := ⟨_, rfl⟩
          obtain ⟨y, hy⟩ : ∃ y, s[i + 2] = y := ⟨_, rfl⟩
          rw [hx, hy] at hst
          have hxl : x.toNat < 256 := x.toNat_lt
          have hyl : y.toNat < 256 := y.toNat_lt
          clear hd1 hdr hc61
          by_cases hsoft : x = 13 ∧ y = 10
          · have hn : unQ s.data.toList = (unQ (s.data.toList.drop (i + 3))).map (out ++ ·) := by rw [hst, hsoft.1, hsoft.2, un_soft]
            have e13 : ((x.toNat : Int) == 13) = true := by rw [hsoft.1]; rfl
            have e10 : ((y.toNat : Int) == 10) = true := by rw [hsoft.2]; rfl
            have Hn := Lib.hid hn
            clear hn hst hsoft
            go_wp2
            go_roundw
            case rel => exact ⟨i + 3, out, _, by omega, by go_num, rfl, by omega, hown, hbr, Hn.out⟩
            case measure => simp [intOf]; omega
          · rw [un_dig x y _ hsoft] at hst
            have hv1 := fun W => r4val_any x W
            have hv2 := fun W => r4val_any y W
            by_cases h13 : x = 13
            · have hux : undigB x = none := by rw [h13]; decide
              rw [hux] at hst hv1
              have hno : unQ s.data.toList = none := by rw [hst]; rfl
              have e13 : ((x.toNat : Int) == 13) = true := by rw [h13]; rfl
              have e10 : ((y.toNat : Int) == 10) = false := by
                rw [beq_eq_false_iff_ne]
                intro e
                exact hsoft ⟨h13, UInt8.toNat_inj.1 (by have : (10 : UInt8).toNat = 10 := rfl; omega)⟩
              simp only [Option.getD_none] at hv1
              clear h13 hux
              obtain ⟨bv, hbv⟩ : ∃ bv, (undigB y).getD 16 = bv := ⟨_, rfl⟩
              rw [hbv] at hv2
              clear hbv
              have Hno := Lib.hid hno
              clear hno hst hsoft
              go_wp2
              go_quiet (first | (go_at_call_of 97 (Value.int IntKind.u8 (x.toNat : Int)); exact Calls.quiet_of_same (hv1 _)) | (go_at_call_of 97 (Value.int IntKind.u8 (y.toNat : Int)); exact Calls.quiet_of_same (hv2 _)))
              clear hv1 hv2
              go_wp2
              go_ret2
              exact ⟨by rw [HD.out, Hno.out]; rfl, below_drewN hbr nq⟩
            · have e13 : ((x.toNat : Int) == 13) = false := by
                rw [beq_eq_false_iff_ne]
                intro e
                exact h13 (UInt8.toNat_inj.1 (by have : (13 : UInt8).toNat = 13 := rfl; omega))
              have k1 : (0 : Int) ≤ (i : Int) + 1 := by omega
              have k2 : (i : Int) + 1 < (s.size : Int) := by omega
              have k3 : (0 : Int) ≤ (i : Int) + 2 := by omega
              have k4 : (i : Int) + 2 < (s.size : Int) := by omega
              clear h13
              cases hux : undigB x with
              | none =>
                rw [hux] at hst hv1
                have hno : unQ s.data.toList = none := by rw [hst]; rfl
                simp only [Option.getD_none] at hv1
                clear hux
                obtain ⟨bv, hbv⟩ : ∃ bv, (undigB y).getD 16 = bv := ⟨_, rfl⟩
                rw [hbv] at hv2
                clear hbv
                have Hno := Lib.hid hno
                clear hno hst hsoft
                go_wp2
                go_quiet (first | (go_at_call_of 97 (Value.int IntKind.u8 (x.toNat : Int)); exact Calls.quiet_of_same (hv1 _)) | (go_at_call_of 97 (Value.int IntKind.u8 (y.toNat : Int)); exact Calls.quiet_of_same (hv2 _)))
                clear hv1 hv2
                go_wp2
                go_ret2
                exact ⟨by rw [HD.out, Hno.out]; rfl, below_drewN hbr nq⟩
              | some a =>
                have ha := (dig_undig hux).1
                rw [hux] at hst hv1
                simp only [Option.getD_some] at hv1
                clear hux
                cases huy : undigB y with
                | none =>
                  rw [huy] at hst hv2
                  have hno : unQ s.data.toList = none := by rw [hst]; rfl
                  simp only [Option.getD_none] at hv2
                  clear huy
                  have Hno := Lib.hid hno
                  clear hno hst hsoft
                  go_wp2
                  go_quiet (first | (go_at_call_of 97 (Value.int IntKind.u8 (x.toNat : Int)); exact Calls.quiet_of_same (hv1 _)) | (go_at_call_of 97 (Value.int IntKind.u8 (y.toNat : Int)); exact Calls.quiet_of_same (hv2 _)))
                  clear hv1 hv2
                  go_wp2
                  go_ret2
                  exact ⟨by rw [HD.out, Hno.out]; rfl, below_drewN hbr nq⟩
                | some b =>
                  have hb := (dig_undig huy).1
                  rw [huy] at hst hv2
                  simp only [Option.getD_some] at hv2
                  have hn : unQ s.data.toList = (unQ (s.data.toList.drop (i + 3))).map ((out ++ [UInt8.ofNat (16 * a + b)]) ++ ·) := by
                    rw [hst]
                    simp only
                    cases unQ (s.data.toList.drop (i + 3)) <;> simp
                  have hby : ((UInt8.ofNat (16 * a + b)).toNat : Int) = 16 * (a : Int) + b := by
                    rw [UInt8.toNat_ofNat_of_lt' (by show _ < 256; omega)]
                    push_cast
                    rfl
                  have Hn := Lib.hid hn
                  have Hby := Lib.hid hby
                  clear huy hn hst hsoft hby
                  go_wp2
                  go_quiet (first | (go_at_call_of 97 (Value.int IntKind.u8 (x.toNat : Int)); exact Calls.quiet_of_same (hv1 _)) | (go_at_call_of 97 (Value.int IntKind.u8 (y.toNat : Int)); exact Calls.quiet_of_same (hv2 _)))
                  clear hv1 hv2
                  have hown2 : ((wr.drewN nq).alloc (.cells #[.int .u8 (16 * (a : Int) + b)] 5)).ownsRow w.heap.size 5 1 u4 out.length (Lib.byteCells out) := World.ownsRow.alloc (w := wr.drewN nq) hown _
                  go_wp2_with (at_builtin; refine wpList_append_own _ rfl _ _ 67 rfl w.heap.size 5 i0 (.int .u8 0) 1 1 Tryz.underlying67 hi hz0 hz1 hz2 rfl (by decide) _ out.length _ rfl hown2 ⟨wr.heap.size, 0, none⟩ 1 1 [.int .u8 (16 * (a : Int) + b)] rfl rfl ?m1 ?m2 ?m3 ?m4 ?m5 ?_)
                  case m1 =>
                    intro j u hj
                    rw [Addr.add_lit]
                    match j, hj with
                    | 0, hj =>
                      simp at hj
                      subst hj
                      have := Lib.cell_of_heap (heap_alloc_new (wr.drewN nq) (.cells #[.int .u8 (16 * (a : Int) + b)] 5)) 0
                      exact this
                    | j + 1, hj => simp at hj
                  case m2 =>
                    intro u hu
                    simp at hu
                    subst hu
                    rfl
                  case m3 => unfold maxLen; omega
                  case m4 => omega
                  case m5 => simp; omega
                  intro v' w3 hown3 hgrow3 _
                  have hb3 : Below w.heap.size w w3 := (Below.alloc (below_drewN hbr nq) hbz _).grown hgrow3 (by simp; omega) fun k hk => (hown2.lt k hk).1
                  go_wp2
                  go_roundw
                  case rel => exact ⟨i + 3, out ++ [UInt8.ofNat (16 * a + b)], _, by omega, by go_num, rfl, by simp; omega, by rw [Lib.byteCells_append, List.length_append, show Lib.byteCells [UInt8.ofNat (16 * a + b)] = [.int .u8 (16 * (a : Int) + b)] by rw [← Hby.out]; rfl]; exact hown3, hb3, Hn.out⟩
                  case measure => simp [intOf]; omega
    · obtain rfl : i = s.size := by omega
      have hdr : s.data.toList.drop s.size = [] := List.drop_eq_nil_of_le (by rw [Hl.out]; exact Nat.le_refl _)
      have hun : unQ s.data.toList = some out := by
        rw [hst, hdr]
        simp [unQ]
      have hcv := conv_own4 hown
      have Hun := Lib.hid hun
      obtain ⟨x, hx⟩ : ∃ x : ByteArray, x = ⟨out.toArray⟩ := ⟨_, rfl⟩
      have hxs : x.size = out.length := by rw [hx]; rfl
      have hxl : x.data.toList = out := by rw [hx]
      have hcall := r4enc_any x wr (by omega)
      rw [hxl] at hcall
      rw [← hx] at hcv
      obtain ⟨y, hy⟩ : ∃ y : ByteArray, y = ⟨(encQ out).toArray⟩ := ⟨_, rfl⟩
      have hyl : y.data.toList = encQ out := by rw [hy]
      rw [← hy] at hcall
      have Hx := Lib.hid hx
      clear hst hdr hun hx hy hxl
      by_cases hes : encQ out = s.data.toList
      · have hys : y = s := ByteArray.ext (Array.ext' (hyl.trans hes))
        subst hys
        have Hes := Lib.hid hes
        clear hes hyl
        go_wp2_with fail
        refine hcall.mono ?_
        rintro e w4 ⟨rfl, hw4⟩
        have hb4 := hbr.trans (hw4.mono hbz)
        have hcv2 : (convert 67 9 u4).run Tryz.prog w4 = .ok (.string x) w4 := by
          have := conv_own4 (ownsRow_below4 hown hw4)
          rw [← Hx.out] at this
          exact this
        clear hcall hcv
        go_wp2
        go_ret2
        exact ⟨by rw [HD.out, Hun.out]; simp only; rw [if_pos Hes.out]; exact congrArg (fun z => Ending.returned (.tuple #[.string z, .int .i64 0])) Hx.out, hb4⟩
      · have hyb : (y.toList == s.toList) = false := bytes_ne4 fun e => hes (by rw [← hyl, e])
        have Hes := Lib.hid hes
        clear hes hyl
        go_wp2_with fail
        refine hcall.mono ?_
        rintro e w4 ⟨rfl, hw4⟩
        have hb4 := hbr.trans (hw4.mono hbz)
        clear hcall hcv
        go_wp2
        go_ret2
        exact ⟨by rw [HD.out, Hun.out]; simp only; rw [if_neg Hes.out]; rfl, hb4⟩
end Go.Proofs.YtidlpdiephlkhaaGreatDoor
namespace Go.Proofs.YtidlpdiephlkhaaGreatDoor
open Go.RowKit

theorem or_i64 (a b : Nat) (ha : a < 16) (hb : b < 16) : bits .or .i64 ((a : Int) * 16) (b : Int) = ((16 * a + b : Nat) : Int) := by
  have hw : ∀ n : Int, 0 ≤ n → n < 2 ^ 8 → IntKind.i64.wrap n = n := fun n h0 h1 => by rw [IntKind.wrap_i64]; omega
  rw [bits_join .i64 8 (by decide) hw 4 ((a : Int) * 16) b (by omega) (by omega) (by omega) (by omega) (by omega) (by omega)]
  push_cast
  omega
theorem byte_conv (n : Nat) (h : n < 256) : ((n : Int) % 256) = ((UInt8.ofNat n).toNat : Int) := by
  rw [UInt8.toNat_ofNat_of_lt' (by show n < 256; omega)]
  omega

/-- What a cut hands back. -/
def cutV (r : Option (List UInt8 × List UInt8)) : Value := match r with
  | some (p, r) => .tuple #[.string ⟨p.toArray⟩, .string ⟨r.toArray⟩, .bool true]
  | none => .tuple #[.string ⟨#[]⟩, .string ⟨#[]⟩, .bool false]

theorem drop_text' (s : ByteArray) (k : Nat) : s.data.toList.drop k = (s.extract k s.size).data.toList := (Lib.extract_to_end s k).symm
theorem trim_pre {l p : List UInt8} (h : List.isPrefixOf p l = true) : Lib.trimPrefix l p = l.drop p.length := by
  unfold Lib.trimPrefix Lib.hasPrefix
  rw [h]
  simp

set_option maxRecDepth 100000 in
set_option maxHeartbeats 4000000 in
theorem cut_anyQ (s : ByteArray) (w : World) (h1 : 1 ≤ s.size) (hs : s.size ≤ 1000000) :
    Calls Tryz.prog 204 #[.string s] w fun e w' => (e = .returned (cutV (cutQ s.data.toList)) ∨ (cutQ s.data.toList = none ∧ ∃ p r, e = .returned (.tuple #[p, r, .bool false]))) ∧ Below w.heap.size w w' := by
  have c1 := Tryz.strings_CutPrefix s ⟨#[13, 10]⟩
  have c2 := Tryz.strings_CutPrefix s ⟨#[61, 13, 10]⟩
  rw [show (⟨#[13, 10]⟩ : ByteArray).data.toList = [13, 10] from rfl] at c1
  rw [show (⟨#[61, 13, 10]⟩ : ByteArray).data.toList = [61, 13, 10] from rfl] at c2
  have hbw := Below.refl w.heap.size w
  have hsl : s.data.toList.length = s.size := rfl
  have hI1 : (1 : Int) ≤ (s.size : Int) := by omega
  have hN0 : 0 < s.size := by omega
  by_cases p1 : List.isPrefixOf [13, 10] s.data.toList = true
  · have e0 : cutQ s.data.toList = some ([13, 10], s.data.toList.drop 2) := by unfold cutQ; rw [if_pos p1]
    have e1 : Lib.hasPrefix s.data.toList [13, 10] = true := p1
    rw [trim_pre p1, e1] at c1
    rw [e0]
    show Calls _ _ _ _ fun e w' => (e = .returned (.tuple #[.string ⟨#[13, 10]⟩, .string ⟨(s.data.toList.drop 2).toArray⟩, .bool true]) ∨ _) ∧ _
    obtain ⟨R, hR⟩ : ∃ R : ByteArray, (⟨(s.data.toList.drop 2).toArray⟩ : ByteArray) = R := ⟨_, rfl⟩
    rw [show ([13, 10] : List UInt8).length = 2 from rfl, hR] at c1
    rw [hR]
    clear e0 e1 p1 hR c2 hsl
    go_enter Tryz.func204, Tryz.ntmps204
    go_wp2_with (go_at_call 153; refine (c1 _).mono ?_; rintro e w2 ⟨rfl, rfl⟩)
    go_ret3
    exact ⟨.inl rfl, hbw⟩
  · have e1 : Lib.hasPrefix s.data.toList [13, 10] = false := by
      exact Bool.eq_false_iff.2 p1
    rw [e1] at c1
    obtain ⟨T, hT⟩ : ∃ T : ByteArray, (⟨(Lib.trimPrefix s.data.toList [13, 10]).toArray⟩ : ByteArray) = T := ⟨_, rfl⟩
    rw [hT] at c1
    clear hT
    by_cases p2 : List.isPrefixOf [61, 13, 10] s.data.toList = true
    · have e0 : cutQ s.data.toList = some ([], s.data.toList.drop 3) := by unfold cutQ; rw [if_neg p1, if_pos p2]
      have e2 : Lib.hasPrefix s.data.toList [61, 13, 10] = true := p2
      rw [trim_pre p2, e2] at c2
      rw [e0]
      show Calls _ _ _ _ fun e w' => (e = .returned (.tuple #[.string ⟨#[]⟩, .string ⟨(s.data.toList.drop 3).toArray⟩, .bool true]) ∨ _) ∧ _
      obtain ⟨R, hR⟩ : ∃ R : ByteArray, (⟨(s.data.toList.drop 3).toArray⟩ : ByteArray) = R := ⟨_, rfl⟩
      rw [show ([61, 13, 10] : List UInt8).length = 3 from rfl, hR] at c2
      rw [hR]
      clear e0 e1 e2 p1 p2 hR hsl
      go_enter Tryz.func204, Tryz.ntmps204
      go_wp2_with (first | (go_at_call_of 153 (Value.string ⟨#[13, 10]⟩); refine (c1 _).mono ?_; rintro e w2 ⟨rfl, rfl⟩) | (go_at_call_of 153 (Value.string ⟨#[61, 13, 10]⟩); refine (c2 _).mono ?_; rintro e w2 ⟨rfl, rfl⟩))
      go_ret3
      exact ⟨.inl rfl, hbw⟩
    · have e2 : Lib.hasPrefix s.data.toList [61, 13, 10] = false := Bool.eq_false_iff.2 p2
      rw [e2] at c2
      obtain ⟨U, hU⟩ : ∃ U : ByteArray, (⟨(Lib.trimPrefix s.data.toList [61, 13, 10]).toArray⟩ : ByteArray) = U := ⟨_, rfl⟩
      rw [hU] at c2
      clear hU e1 e2
      have hdr : s.data.toList = s[0] :: s.data.toList.drop 1 := by
        have := List.drop_eq_getElem_cons (l := s.data.toList) (i := 0) (by rw [hsl]; omega)
        rw [List.drop_zero] at this
        exact this
      obtain ⟨c, hc⟩ : ∃ c, s[0] = c := ⟨_, rfl⟩
      rw [hc] at hdr
      have hst := stands_any c false
      by_cases h61 : c ≠ 61
      · have e3' : ((c.toNat : Int) != 61) = true := by rw [bne_iff_ne]; intro e; exact h61 (UInt8.toNat_inj.1 (by have : (61 : UInt8).toNat = 61 := rfl; omega))
        have e3 : ((c.toNat : Int) != (((⟨#[61]⟩ : ByteArray)[0]'(by decide)).toNat : Int)) = true := e3'
        have e0 : cutQ s.data.toList = (if plainQ c false then some ([c], s.data.toList.drop 1) else none) := by
          unfold cutQ
          rw [if_neg p1, if_neg p2, hdr]
          simp only [List.drop_succ_cons, List.drop_zero]
          rw [if_pos h61]
        rw [drop_text' s 1] at e0
        obtain ⟨R, hR⟩ : ∃ R : ByteArray, s.extract 1 s.size = R := ⟨_, rfl⟩
        have hX : s.extract 0 1 = ⟨#[c]⟩ := by
          rw [← take_extractQ, hdr]
          rfl
        rw [hR] at e0
        have E0 := Lib.hid e0
        clear e0 p1 p2 hdr hsl h61 e3'
        go_enter Tryz.func204, Tryz.ntmps204
        go_wp2_with (first | (go_at_call_of 153 (Value.string ⟨#[13, 10]⟩); refine (c1 _).mono ?_; rintro e w2 ⟨rfl, rfl⟩) | (go_at_call_of 153 (Value.string ⟨#[61, 13, 10]⟩); refine (c2 _).mono ?_; rintro e w2 ⟨rfl, rfl⟩))
        go_quiet (fail)
        have hbq := below_drewN hbw nq
        generalize w2.drewN nq = wq at hbq ⊢
        go_wp2
        go_quiet (first | (go_at_call 107; exact Calls.quiet_of_same (hst _)))
        go_wp2
        go_ret3
        refine ⟨?_, below_drewN hbq _⟩
        cases hp : plainQ c false with
        | true =>
          left
          rw [E0.out, hp, if_pos rfl]
          rfl
        | false =>
          right
          exact ⟨by rw [E0.out, hp, if_neg (by simp)], _, _, rfl⟩
      · have h61 : c = 61 := by simpa using h61
        have e3 : ((c.toNat : Int) != (((⟨#[61]⟩ : ByteArray)[0]'(by decide)).toNat : Int)) = false := by rw [h61]; rfl
        by_cases h3 : s.size < 3
        · have e0 : cutQ s.data.toList = none := by
            have hlen := hsl
            rw [hdr, List.length_cons] at hlen
            unfold cutQ
            rw [if_neg p1, if_neg p2, hdr, h61]
            simp only [ne_eq, not_true, if_false]
            match hr : s.data.toList.drop 1 with
            | [] => rfl
            | [_] => rfl
            | _ :: _ :: _ => rw [hr] at hlen; simp at hlen; omega
          have E0 := Lib.hid e0
          clear e0 p1 p2 hdr hsl h61 hst
          go_enter Tryz.func204, Tryz.ntmps204
          go_wp2_with (first | (go_at_call_of 153 (Value.string ⟨#[13, 10]⟩); refine (c1 _).mono ?_; rintro e w2 ⟨rfl, rfl⟩) | (go_at_call_of 153 (Value.string ⟨#[61, 13, 10]⟩); refine (c2 _).mono ?_; rintro e w2 ⟨rfl, rfl⟩))
          go_quiet (fail)
          go_wp2
          go_ret3
          exact ⟨.inl (by rw [E0.out]; rfl), below_drewN hbw _⟩
        · have hd2 : s.data.toList = (61 : UInt8) :: s[1] :: s[2] :: s.data.toList.drop 3 := by
            rw [h61] at hdr
            have a1 := List.drop_eq_getElem_cons (l := s.data.toList) (i := 1) (by rw [hsl]; omega)
            have a2 := List.drop_eq_getElem_cons (l := s.data.toList) (i := 2) (by rw [hsl]; omega)
            rw [a1, a2] at hdr
            exact hdr
          obtain ⟨x, hx⟩ : ∃ x, s[1] = x := ⟨_, rfl⟩
          obtain ⟨y, hy⟩ : ∃ y, s[2] = y := ⟨_, rfl⟩
          rw [hx, hy] at hd2
          have e0 : cutQ s.data.toList = twoQ (undigB x) (undigB y) (s.data.toList.drop 3) := by
            have key : ∀ r, ¬ List.isPrefixOf [61, 13, 10] (61 :: x :: y :: r) = true → cutQ (61 :: x :: y :: r) = twoQ (undigB x) (undigB y) r := fun r hp => by
              unfold cutQ
              rw [if_neg (by simp [List.isPrefixOf]), if_neg hp]
              simp only [ne_eq, not_true, if_false]
            rw [hd2] at p2
            have := key _ p2
            rw [← hd2] at this
            exact this
          rw [drop_text' s 3] at e0
          obtain ⟨R, hR⟩ : ∃ R : ByteArray, s.extract 3 s.size = R := ⟨_, rfl⟩
          rw [hR] at e0
          have hi := fun (c : UInt8) W => Tryz.strings_IndexByte ⟨#[48, 49, 50, 51, 52, 53, 54, 55, 56, 57, 65, 66, 67, 68, 69, 70]⟩ (c.toNat : Int) W
          have hdi : ∀ c : UInt8, Lib.indexByte (⟨#[48, 49, 50, 51, 52, 53, 54, 55, 56, 57, 65, 66, 67, 68, 69, 70]⟩ : ByteArray).data.toList ((c.toNat : Int).toNat.toUInt8) = digI (undigB c) := fun c => by
            rw [← digit_index c]
            simp
          have hi1 := hi x
          have hi2 := hi y
          rw [hdi] at hi1 hi2
          have hN1 : 1 < s.size := by omega
          have hN2 : 2 < s.size := by omega
          have hI3 : (3 : Int) ≤ (s.size : Int) := by omega
          cases hu : undigB x with
          | none =>
            rw [hu] at hi1 e0
            simp only [digI] at hi1
            have E0 := Lib.hid e0
            obtain ⟨q, hq⟩ : ∃ q : Int, digI (undigB y) = q := ⟨_, rfl⟩
            rw [hq] at hi2
            clear hq e0 p1 p2 hdr h61 hst hd2 hi hdi hu
            go_enter Tryz.func204, Tryz.ntmps204
            go_wp2_with (first | (go_at_call_of 153 (Value.string ⟨#[13, 10]⟩); refine (c1 _).mono ?_; rintro e w2 ⟨rfl, rfl⟩) | (go_at_call_of 153 (Value.string ⟨#[61, 13, 10]⟩); refine (c2 _).mono ?_; rintro e w2 ⟨rfl, rfl⟩))
            go_quiet (fail)
            have hbq := below_drewN hbw nq
            generalize w2.drewN nq = wq at hbq ⊢
            go_wp2
            go_quiet (first | (go_at_call_of 207 (Value.int IntKind.u8 (x.toNat : Int)); exact Calls.quiet_of_same (hi1 _)) | (go_at_call_of 207 (Value.int IntKind.u8 (y.toNat : Int)); exact Calls.quiet_of_same (hi2 _)))
            go_wp2
            go_ret3
            exact ⟨.inl (by rw [E0.out]; rfl), below_drewN hbq _⟩
          | some a =>
            have ha := (dig_undig hu).1
            rw [hu] at hi1 e0
            simp only [digI] at hi1
            cases hv : undigB y with
            | none =>
              rw [hv] at hi2 e0
              simp only [digI] at hi2
              have E0 := Lib.hid e0
              clear e0 p1 p2 hdr h61 hst hd2 hi hdi hu hv
              go_enter Tryz.func204, Tryz.ntmps204
              go_wp2_with (first | (go_at_call_of 153 (Value.string ⟨#[13, 10]⟩); refine (c1 _).mono ?_; rintro e w2 ⟨rfl, rfl⟩) | (go_at_call_of 153 (Value.string ⟨#[61, 13, 10]⟩); refine (c2 _).mono ?_; rintro e w2 ⟨rfl, rfl⟩))
              go_quiet (fail)
              have hbq := below_drewN hbw nq
              generalize w2.drewN nq = wq at hbq ⊢
              go_wp2
              go_quiet (first | (go_at_call_of 207 (Value.int IntKind.u8 (x.toNat : Int)); exact Calls.quiet_of_same (hi1 _)) | (go_at_call_of 207 (Value.int IntKind.u8 (y.toNat : Int)); exact Calls.quiet_of_same (hi2 _)))
              go_wp2
              go_ret3
              exact ⟨.inl (by rw [E0.out]; rfl), below_drewN hbq _⟩
            | some b =>
              have hb := (dig_undig hv).1
              rw [hv] at hi2 e0
              simp only [digI] at hi2
              have hor := or_i64 a b ha hb
              have hcv := byte_conv (16 * a + b) (by omega)
              rw [twoQ] at e0
              obtain ⟨z, hz⟩ : ∃ z, UInt8.ofNat (16 * a + b) = z := ⟨_, rfl⟩
              rw [hz] at e0 hcv
              have E0 := Lib.hid e0
              have Hcv := Lib.hid hcv
              clear e0 p1 p2 hdr h61 hst hd2 hi hdi hu hv hcv hz
              go_enter Tryz.func204, Tryz.ntmps204
              go_wp2_with (first | (go_at_call_of 153 (Value.string ⟨#[13, 10]⟩); refine (c1 _).mono ?_; rintro e w2 ⟨rfl, rfl⟩) | (go_at_call_of 153 (Value.string ⟨#[61, 13, 10]⟩); refine (c2 _).mono ?_; rintro e w2 ⟨rfl, rfl⟩))
              go_quiet (fail)
              have hbq := below_drewN hbw nq
              generalize w2.drewN nq = wq at hbq ⊢
              go_wp2
              go_quiet (first | (go_at_call_of 207 (Value.int IntKind.u8 (x.toNat : Int)); exact Calls.quiet_of_same (hi1 _)) | (go_at_call_of 207 (Value.int IntKind.u8 (y.toNat : Int)); exact Calls.quiet_of_same (hi2 _)))
              have hbr := below_drewN hbq nq
              generalize wq.drewN nq = wr at hbr ⊢
              have v1 := conv_one z wr.drew
              have v3 : (convert 67 9 (.slice (some ⟨wr.heap.size, 0, none⟩) 1 1)).run Tryz.prog (wr.alloc (.cells #[.int .u8 (z.toNat : Int)] 5)).drew = .ok (.string ⟨#[z]⟩) (wr.alloc (.cells #[.int .u8 (z.toNat : Int)] 5)).drew := v1
              have hcv : IntKind.u8.wrap (bits BinOp.or IntKind.i64 (IntKind.i64.wrap ((a : Int) * 16)) (b : Int)) = (z.toNat : Int) := by
                rw [show IntKind.i64.wrap ((a : Int) * 16) = (a : Int) * 16 by rw [IntKind.wrap_i64]; omega, hor, IntKind.wrap_u8]
                exact Hcv.out
              clear hi1 hi2 c1 c2 v1 hor
              go_wp2
              go_region_with (fail)
              all_goals
                (try go_wp2)
                go_ret3
                exact ⟨.inl (by rw [E0.out]; rfl), (hbr.alloc (by have := hbr.size; omega) _).drew⟩

theorem text_bytesQ (t : ByteArray) : t.toList = t.data.toList := by
  cases t with
  | mk d => cases d with
    | mk l => simp
def strLenQ (v : Value) : Nat := match v with
  | .string s => s.size
  | _ => 0
/-- What reading hands back. -/
def readV (r : Option (List UInt8)) : Value := match r with
  | some l => .tuple #[.string ⟨l.toArray⟩, .bool true]
  | none => .tuple #[.string ⟨#[]⟩, .bool false]

set_option maxRecDepth 100000 in
set_option maxHeartbeats 4000000 in
theorem read_any (s : ByteArray) (w : World) (hs : s.size ≤ 1000000) :
    Calls Tryz.prog 166 #[.string s] w fun e w' => e = .returned (readV (readQ s.data.toList)) ∧ Below w.heap.size w w' := by
  have hbf := Lib.fresh_isBuilder 69 5 w
  have hbw := (Below.refl w.heap.size w).alloc (Nat.le_refl _) (.cells #[.pointer none, .slice none 0 0] 69)
  obtain ⟨r, hr⟩ : ∃ r, readQ s.data.toList = r := ⟨_, rfl⟩
  rw [hr]
  have Hr := Lib.hid hr
  clear hr
  go_enter Tryz.func166, Tryz.ntmps166
  go_wp2
  go_loopw [0, 5, 6, 7] (fun sv _ _ _ wr => ∃ (cur : ByteArray) (acc : List UInt8), sv = .string cur ∧ cur.size + acc.length ≤ s.size ∧ Lib.IsBuilder 69 5 w.heap.size w.heap.size (Lib.byteCells acc) wr ∧ Below w.heap.size w wr ∧
      r = (readQ cur.data.toList).map (acc ++ ·)) (fun sv _ _ _ _ => strLenQ sv)
  case atStart => exact ⟨s, [], rfl, by simp, hbf, hbw, by rw [Hr.out]; cases r <;> rfl⟩
  case round =>
    obtain ⟨cur, acc, rfl, hla, hbd, hbr, hst⟩ := hrel
    have hbz := hbr.size
    by_cases h0 : cur.size = 0
    · have hce : cur.data.toList = [] := List.eq_nil_of_length_eq_zero h0
      have hce2 : cur = ⟨#[]⟩ := ByteArray.ext (Array.ext' hce)
      subst hce2
      rw [hce, readQ_nil, Option.map_some, List.append_nil] at hst
      have hstr := Tryz.Builder_String_any w.heap.size w.heap.size acc wr hbd hbz
      have Hst := Lib.hid hst
      clear hce hst h0
      go_wp2_with (go_at_call 48; refine hstr.mono ?_)
      rintro e w2 ⟨rfl, hw2⟩
      go_wp2
      go_ret2
      exact ⟨by rw [Hst.out]; rfl, hbr.trans hw2⟩
    · have hne : (cur.toList == []) = false := by
        rw [text_bytesQ, beq_eq_false_iff_ne]
        intro e
        exact h0 (by have := congrArg List.length e; exact this)
      have hnl : cur.data.toList ≠ [] := fun e => h0 (by have := congrArg List.length e; exact this)
      have hcut := cut_anyQ cur wr (by omega) (by omega)
      have hcl : cur.data.toList.length = cur.size := rfl
      cases hc : cutQ cur.data.toList with
      | none =>
        rw [readQ_none hnl hc, Option.map_none] at hst
        rw [hc] at hcut
        have Hst := Lib.hid hst
        clear hst hnl hc hcl
        have hcut2 : Calls Tryz.prog 204 #[.string cur] wr fun e w' => (∃ p q, e = .returned (.tuple #[p, q, .bool false])) ∧ Below wr.heap.size wr w' := hcut.mono fun e w' ⟨he, hw⟩ => ⟨by
          rcases he with rfl | ⟨_, p, q, rfl⟩
          · exact ⟨_, _, rfl⟩
          · exact ⟨_, _, rfl⟩, hw⟩
        clear hcut
        go_wp2_with (go_at_call 204; refine hcut2.mono ?_; rintro e w2 ⟨⟨p, q, rfl⟩, hw2⟩)
        go_ret2
        exact ⟨by rw [Hst.out]; rfl, hbr.trans (hw2.mono (by omega))⟩
      | some pq =>
        obtain ⟨p, q⟩ := pq
        have hll := cut_len hc
        rw [hcl] at hll
        rw [readQ_cut hc] at hst
        rw [hc] at hcut
        obtain ⟨X, hX⟩ : ∃ X : ByteArray, (⟨p.toArray⟩ : ByteArray) = X := ⟨_, rfl⟩
        obtain ⟨Y, hY⟩ : ∃ Y : ByteArray, (⟨q.toArray⟩ : ByteArray) = Y := ⟨_, rfl⟩
        have hXl : X.data.toList = p := by rw [← hX]
        have hXs : X.size = p.length := by rw [← hX]; rfl
        have hYl : Y.data.toList = q := by rw [← hY]
        have hYs : Y.size = q.length := by rw [← hY]; rfl
        unfold cutV at hcut
        simp only [hX, hY] at hcut
        have Hst : Hid (r = (readQ Y.data.toList).map ((acc ++ p) ++ ·)) := Lib.hid (by
          rw [hst, hYl]
          cases readQ q <;> simp)
        have hle : Y.size + (acc ++ p).length ≤ s.size := by rw [List.length_append]; omega
        have hlt : Y.size < cur.size := by omega
        have hxb : acc.length + X.size ≤ 140737488355328 := by omega
        have hcx : Lib.byteCells acc ++ Lib.strCells X = Lib.byteCells (acc ++ p) := by rw [← hXl, Lib.byteCells_append]; rfl
        have Hcx := Lib.hid hcx
        clear hst hnl hc hcl hll hX hY hXl hXs hYl hYs hcx
        have hcut2 : Calls Tryz.prog 204 #[.string cur] wr fun e w' => e = .returned (.tuple #[.string X, .string Y, .bool true]) ∧ Below wr.heap.size wr w' := hcut.mono fun e w' ⟨he, hw⟩ => ⟨by
          rcases he with rfl | ⟨h, _⟩
          · rfl
          · exact absurd h (by simp), hw⟩
        clear hcut
        have HB := Lib.hid hbd
        clear hbd
        go_wp2_with (go_at_call 204; refine hcut2.mono ?_)
        rintro e w2 ⟨rfl, hw2⟩
        have hbd := HB.out
        have hbw2 := bwrite_any w.heap.size w.heap.size (Lib.byteCells acc) X w2 (isbuilder_below hbd hw2) (by rw [Lib.byteCells_length]; exact hxb) (by have := hw2.size; omega)
        rw [Hcx.out] at hbw2
        have hb2 := hbr.trans (hw2.mono (show w.heap.size ≤ wr.heap.size by omega))
        clear hcut2 hw2 hbd HB
        go_wp2_with (go_at_call 47; refine hbw2.mono ?_; rintro e w4 ⟨rfl, hb4, hw4⟩)
        exact ⟨⟨Y, acc ++ p, rfl, hle, .inr hb4, hb2.trans hw4, Hst.out⟩, by unfold strLenQ; simp only; exact hlt⟩
end Go.Proofs.YtidlpdiephlkhaaGreatDoor
