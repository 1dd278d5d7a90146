/-
  The document's answer of layer 4, written in Go: a told text read, by the plain function.
-/
import Derived.Test.YtfbnifioifghlaaDoorR4E
import Derived.Deep.QuietTactic
import Derived.Deep.RegionWith
import Derived.BigQuiet
import Derived.Lib.Builder
namespace Go.Proofs.YtfbnifioifghlaaDoor
open Go.RowKit

/-- What reading hands back. -/
def decV4 (r : Option (List UInt8)) : Value := match r with
  | some l => .tuple #[.string ⟨l.toArray⟩, .int .i64 0]
  | none => .tuple #[.string ⟨#[]⟩, .int .i64 2]
theorem bytes_ne4 {a b : ByteArray} (h : a ≠ b) : (a.toList == b.toList) = false := by
  have e : ∀ t : ByteArray, t.toList = t.data.toList := fun t => by
    cases t with
    | mk d => cases d with
      | mk l => simp
  simp only [e, beq_eq_false_iff_ne, ne_eq]
  exact fun e => h (ByteArray.ext (Array.ext' e))
theorem un_short {r : List UInt8} (h : r.length < 2) : unQ (61 :: r) = none := by
  match r, h with
  | [], _ => rfl
  | [_], _ => rfl
theorem un_dig (x y : UInt8) (r : List UInt8) (h : ¬ (x = 13 ∧ y = 10)) : unQ (61 :: x :: y :: r) = (match undigB x, undigB y with
    | some a, some b => (unQ r).map (UInt8.ofNat (16 * a + b) :: ·)
    | _, _ => none) := by
  rw [unQ.eq_def]
  simp only
  rw [if_neg (by simp), if_neg h]
  rfl

set_option maxRecDepth 100000 in
set_option maxHeartbeats 4000000 in
theorem r4dec_any (s : ByteArray) (w : World) (hs : s.size < 100000) :
    Calls Tryd.prog 11 #[.string s] w fun e w' => e = .returned (decV4 (decQ s.data.toList)) ∧ Below w.heap.size w w' := by
  obtain ⟨i0, hi, hz0, hz1, hz2⟩ := info_parts infoB4
  have hown0 : w.ownsRow w.heap.size 5 1 (.slice none 0 0) ([] : List UInt8).length (Lib.byteCells []) := World.ownsRow_nil _ _ _ _
  have Hl : Hid (s.data.toList.length = s.size) := Lib.hid rfl
  have HD : Hid (decQ s.data.toList = (match unQ s.data.toList with
      | some r => if encQ r = s.data.toList then some r else none
      | none => none)) := Lib.hid rfl
  go_enter Tryd.func11, Tryd.ntmps11
  go_wp2
  go_loopw [4, 5, 6, 7] (fun o iv _ _ wr => ∃ (i : Nat) (out : List UInt8) (vo : Value), i ≤ s.size ∧ iv = .int .i64 i ∧ o = vo ∧ out.length ≤ i ∧ wr.ownsRow w.heap.size 5 1 vo out.length (Lib.byteCells out) ∧ Below w.heap.size w wr ∧ unQ s.data.toList = (unQ (s.data.toList.drop i)).map (out ++ ·)) (fun _ iv _ _ _ => s.size - (intOf iv).toNat)
  case atStart => exact ⟨0, [], _, Nat.zero_le _, rfl, rfl, Nat.le_refl _, hown0, Below.refl _ _, by rw [List.drop_zero]; cases unQ s.data.toList <;> rfl⟩
  case round =>
    obtain ⟨i, out, vo, hi1, rfl, hvo, hol, hown, hbr, hst⟩ := hrel
    subst hvo
    have hbz := hbr.size
    by_cases hlt : i < s.size
    · have hdr : s.data.toList.drop i = s[i] :: s.data.toList.drop (i + 1) := by
        rw [List.drop_eq_getElem_cons (by rw [Hl.out]; exact hlt)]
        rfl
      obtain ⟨c, hc⟩ : ∃ c, s[i] = c := ⟨_, rfl⟩
      rw [hc] at hdr
      have hcl : c.toNat < 256 := c.toNat_lt
      rw [hdr] at hst
      by_cases hp : c ≠ 61
      · have hn : unQ s.data.toList = (unQ (s.data.toList.drop (i + 1))).map ((out ++ [c]) ++ ·) := by
          rw [hst, un_plain hp]
          cases unQ (s.data.toList.drop (i + 1)) <;> simp
        have h61 : ((c.toNat : Int) != 61) = true := by
          rw [bne_iff_ne]
          intro e
          exact hp (UInt8.toNat_inj.1 (by have : (61 : UInt8).toNat = 61 := rfl; omega))
        have Hn := Lib.hid hn
        have hown2 := hown.alloc (.cells #[.int .u8 (c.toNat : Int)] 5)
        clear hn hst hdr hp
        go_wp2_with (at_builtin; refine wpList_append_own _ rfl _ _ 35 rfl w.heap.size 5 i0 (.int .u8 0) 1 1 Tryd.underlying35 hi hz0 hz1 hz2 rfl (by decide) _ out.length _ rfl hown2 ⟨wr.heap.size, 0, none⟩ 1 1 [.int .u8 (c.toNat : Int)] rfl rfl ?n1 ?n2 ?n3 ?n4 ?n5 ?_)
        case n1 =>
          intro j u hj
          rw [Addr.add_lit]
          match j, hj with
          | 0, hj =>
            simp at hj
            subst hj
            go_simp
          | j + 1, hj => simp at hj
        case n2 =>
          intro u hu
          simp at hu
          subst hu
          rfl
        case n3 => unfold maxLen; omega
        case n4 => omega
        case n5 => simp; omega
        intro v' w3 hown3 hgrow3 _
        have hb3 : Below w.heap.size w w3 := (hbr.alloc hbz _).grown hgrow3 (by simp; omega) fun k hk => (hown2.lt k hk).1
        go_wp2
        go_roundw
        case rel => exact ⟨i + 1, out ++ [c], _, by omega, by go_num, rfl, by simp; omega, by rw [Lib.byteCells_append, List.length_append]; exact hown3, hb3, Hn.out⟩
        case measure => simp [intOf]; omega
      · have hc61 : c = 61 := Classical.byContradiction hp
        have h61 : ((c.toNat : Int) != 61) = false := by rw [hc61]; rfl
        rw [hc61] at hst
        clear hp
        by_cases hshort : s.size ≤ i + 2
        · have hno : unQ s.data.toList = none := by
            rw [hst, un_short (by rw [List.length_drop, Hl.out]; omega)]
            rfl
          have Hno := Lib.hid hno
          clear hno hst hdr hc61
          go_wp2
          go_ret2
          exact ⟨by rw [HD.out, Hno.out]; rfl, hbr⟩
        · have hd1 : s.data.toList.drop (i + 1) = s[i + 1] :: s[i + 2] :: s.data.toList.drop (i + 3) := by
            rw [List.drop_eq_getElem_cons (by rw [Hl.out]; omega), List.drop_eq_getElem_cons (by rw [Hl.out]; omega)]
            rfl
          rw [hd1] at hst
          obtain ⟨x, hx⟩ : ∃ x, s[i + 1] = x := ⟨_, rfl⟩
          obtain ⟨y, hy⟩ : ∃ y, s[i + 2] = y := ⟨_, rfl⟩
          rw [hx, hy] at hst
          have hxl : x.toNat < 256 := x.toNat_lt
          have hyl : y.toNat < 256 := y.toNat_lt
          clear hd1 hdr hc61
          by_cases hsoft : x = 13 ∧ y = 10
          · have hn : unQ s.data.toList = (unQ (s.data.toList.drop (i + 3))).map (out ++ ·) := by rw [hst, hsoft.1, hsoft.2, un_soft]
            have e13 : ((x.toNat : Int) == 13) = true := by rw [hsoft.1]; rfl
            have e10 : ((y.toNat : Int) == 10) = true := by rw [hsoft.2]; rfl
            have Hn := Lib.hid hn
            clear hn hst hsoft
            go_wp2
            go_roundw
            case rel => exact ⟨i + 3, out, _, by omega, by go_num, rfl, by omega, hown, hbr, Hn.out⟩
            case measure => simp [intOf]; omega
          · rw [un_dig x y _ hsoft] at hst
            have hv1 := fun W => r4val_any x W
            have hv2 := fun W => r4val_any y W
            by_cases h13 : x = 13
            · have hux : undigB x = none := by rw [h13]; decide
              rw [hux] at hst hv1
              have hno : unQ s.data.toList = none := by rw [hst]; rfl
              have e13 : ((x.toNat : Int) == 13) = true := by rw [h13]; rfl
              have e10 : ((y.toNat : Int) == 10) = false := by
                rw [beq_eq_false_iff_ne]
                intro e
                exact hsoft ⟨h13, UInt8.toNat_inj.1 (by have : (10 : UInt8).toNat = 10 := rfl; omega)⟩
              simp only [Option.getD_none] at hv1
              clear h13 hux
              obtain ⟨bv, hbv⟩ : ∃ bv, (undigB y).getD 16 = bv := ⟨_, rfl⟩
              rw [hbv] at hv2
              clear hbv
              have Hno := Lib.hid hno
              clear hno hst hsoft
              go_wp2
              go_quiet (first | (go_at_call_of 17 (Value.int IntKind.u8 (x.toNat : Int)); exact Calls.quiet_of_same (hv1 _)) | (go_at_call_of 17 (Value.int IntKind.u8 (y.toNat : Int)); exact Calls.quiet_of_same (hv2 _)))
              clear hv1 hv2
              go_wp2
              go_ret2
              exact ⟨by rw [HD.out, Hno.out]; rfl, below_drewN hbr nq⟩
            · have e13 : ((x.toNat : Int) == 13) = false := by
                rw [beq_eq_false_iff_ne]
                intro e
                exact h13 (UInt8.toNat_inj.1 (by have : (13 : UInt8).toNat = 13 := rfl; omega))
              have k1 : (0 : Int) ≤ (i : Int) + 1 := by omega
              have k2 : (i : Int) + 1 < (s.size : Int) := by omega
              have k3 : (0 : Int) ≤ (i : Int) + 2 := by omega
              have k4 : (i : Int) + 2 < (s.size : Int) := by omega
              clear h13
              cases hux : undigB x with
              | none =>
                rw [hux] at hst hv1
                have hno : unQ s.data.toList = none := by rw [hst]; rfl
                simp only [Option.getD_none] at hv1
                clear hux
                obtain ⟨bv, hbv⟩ : ∃ bv, (undigB y).getD 16 = bv := ⟨_, rfl⟩
                rw [hbv] at hv2
                clear hbv
                have Hno := Lib.hid hno
                clear hno hst hsoft
                go_wp2
                go_quiet (first | (go_at_call_of 17 (Value.int IntKind.u8 (x.toNat : Int)); exact Calls.quiet_of_same (hv1 _)) | (go_at_call_of 17 (Value.int IntKind.u8 (y.toNat : Int)); exact Calls.quiet_of_same (hv2 _)))
                clear hv1 hv2
                go_wp2
                go_ret2
                exact ⟨by rw [HD.out, Hno.out]; rfl, below_drewN hbr nq⟩
              | some a =>
                have ha := (dig_undig hux).1
                rw [hux] at hst hv1
                simp only [Option.getD_some] at hv1
                clear hux
                cases huy : undigB y with
                | none =>
                  rw [huy] at hst hv2
                  have hno : unQ s.data.toList = none := by rw [hst]; rfl
                  simp only [Option.getD_none] at hv2
                  clear huy
                  have Hno := Lib.hid hno
                  clear hno hst hsoft
                  go_wp2
                  go_quiet (first | (go_at_call_of 17 (Value.int IntKind.u8 (x.toNat : Int)); exact Calls.quiet_of_same (hv1 _)) | (go_at_call_of 17 (Value.int IntKind.u8 (y.toNat : Int)); exact Calls.quiet_of_same (hv2 _)))
                  clear hv1 hv2
                  go_wp2
                  go_ret2
                  exact ⟨by rw [HD.out, Hno.out]; rfl, below_drewN hbr nq⟩
                | some b =>
                  have hb := (dig_undig huy).1
                  rw [huy] at hst hv2
                  simp only [Option.getD_some] at hv2
                  have hn : unQ s.data.toList = (unQ (s.data.toList.drop (i + 3))).map ((out ++ [UInt8.ofNat (16 * a + b)]) ++ ·) := by
                    rw [hst]
                    simp only
                    cases unQ (s.data.toList.drop (i + 3)) <;> simp
                  have hby : ((UInt8.ofNat (16 * a + b)).toNat : Int) = 16 * (a : Int) + b := by
                    rw [UInt8.toNat_ofNat_of_lt' (by show _ < 256; omega)]
                    push_cast
                    rfl
                  have Hn := Lib.hid hn
                  have Hby := Lib.hid hby
                  clear huy hn hst hsoft hby
                  go_wp2
                  go_quiet (first | (go_at_call_of 17 (Value.int IntKind.u8 (x.toNat : Int)); exact Calls.quiet_of_same (hv1 _)) | (go_at_call_of 17 (Value.int IntKind.u8 (y.toNat : Int)); exact Calls.quiet_of_same (hv2 _)))
                  clear hv1 hv2
                  have hown2 : ((wr.drewN nq).alloc (.cells #[.int .u8 (16 * (a : Int) + b)] 5)).ownsRow w.heap.size 5 1 u4 out.length (Lib.byteCells out) := World.ownsRow.alloc (w := wr.drewN nq) hown _
                  go_wp2_with (at_builtin; refine wpList_append_own _ rfl _ _ 35 rfl w.heap.size 5 i0 (.int .u8 0) 1 1 Tryd.underlying35 hi hz0 hz1 hz2 rfl (by decide) _ out.length _ rfl hown2 ⟨wr.heap.size, 0, none⟩ 1 1 [.int .u8 (16 * (a : Int) + b)] rfl rfl ?m1 ?m2 ?m3 ?m4 ?m5 ?_)
                  case m1 =>
                    intro j u hj
                    rw [Addr.add_lit]
                    match j, hj with
                    | 0, hj =>
                      simp at hj
                      subst hj
                      have := Lib.cell_of_heap (heap_alloc_new (wr.drewN nq) (.cells #[.int .u8 (16 * (a : Int) + b)] 5)) 0
                      exact this
                    | j + 1, hj => simp at hj
                  case m2 =>
                    intro u hu
                    simp at hu
                    subst hu
                    rfl
                  case m3 => unfold maxLen; omega
                  case m4 => omega
                  case m5 => simp; omega
                  intro v' w3 hown3 hgrow3 _
                  have hb3 : Below w.heap.size w w3 := (Below.alloc (below_drewN hbr nq) hbz _).grown hgrow3 (by simp; omega) fun k hk => (hown2.lt k hk).1
                  go_wp2
                  go_roundw
                  case rel => exact ⟨i + 3, out ++ [UInt8.ofNat (16 * a + b)], _, by omega, by go_num, rfl, by simp; omega, by rw [Lib.byteCells_append, List.length_append, show Lib.byteCells [UInt8.ofNat (16 * a + b)] = [.int .u8 (16 * (a : Int) + b)] by rw [← Hby.out]; rfl]; exact hown3, hb3, Hn.out⟩
                  case measure => simp [intOf]; omega
    · obtain rfl : i = s.size := by omega
      have hdr : s.data.toList.drop s.size = [] := List.drop_eq_nil_of_le (by rw [Hl.out]; exact Nat.le_refl _)
      have hun : unQ s.data.toList = some out := by
        rw [hst, hdr]
        simp [unQ]
      have hcv := conv_own4 hown
      have Hun := Lib.hid hun
      obtain ⟨x, hx⟩ : ∃ x : ByteArray, x = ⟨out.toArray⟩ := ⟨_, rfl⟩
      have hxs : x.size = out.length := by rw [hx]; rfl
      have hxl : x.data.toList = out := by rw [hx]
      have hcall := r4enc_any x wr (by omega)
      rw [hxl] at hcall
      rw [← hx] at hcv
      obtain ⟨y, hy⟩ : ∃ y : ByteArray, y = ⟨(encQ out).toArray⟩ := ⟨_, rfl⟩
      have hyl : y.data.toList = encQ out := by rw [hy]
      rw [← hy] at hcall
      have Hx := Lib.hid hx
      clear hst hdr hun hx hy hxl
      by_cases hes : encQ out = s.data.toList
      · have hys : y = s := ByteArray.ext (Array.ext' (hyl.trans hes))
        subst hys
        have Hes := Lib.hid hes
        clear hes hyl
        go_wp2_with fail
        refine hcall.mono ?_
        rintro e w4 ⟨rfl, hw4⟩
        have hb4 := hbr.trans (hw4.mono hbz)
        have hcv2 : (convert 35 9 u4).run Tryd.prog w4 = .ok (.string x) w4 := by
          have := conv_own4 (ownsRow_below4 hown hw4)
          rw [← Hx.out] at this
          exact this
        clear hcall hcv
        go_wp2
        go_ret2
        exact ⟨by rw [HD.out, Hun.out]; simp only; rw [if_pos Hes.out]; exact congrArg (fun z => Ending.returned (.tuple #[.string z, .int .i64 0])) Hx.out, hb4⟩
      · have hyb : (y.toList == s.toList) = false := bytes_ne4 fun e => hes (by rw [← hyl, e])
        have Hes := Lib.hid hes
        clear hes hyl
        go_wp2_with fail
        refine hcall.mono ?_
        rintro e w4 ⟨rfl, hw4⟩
        have hb4 := hbr.trans (hw4.mono hbz)
        clear hcall hcv
        go_wp2
        go_ret2
        exact ⟨by rw [HD.out, Hun.out]; simp only; rw [if_neg Hes.out]; rfl, hb4⟩
end Go.Proofs.YtfbnifioifghlaaDoor
