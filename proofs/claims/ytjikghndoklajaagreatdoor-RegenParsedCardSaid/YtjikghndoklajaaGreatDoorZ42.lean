/-
  Texts of this proof, put together: RgB, RgP, RgC.
-/
import Derived.Test.YtjikghndoklajaaGreatDoorZ41
import Derived.Test.YtjikghndoklajaaGreatDoorZ31
import Derived.Lib.ItoaNum
import Derived.Lib.AppendIntMem
import Derived.Test.YtjikghndoklajaaGreatDoorZ17
import Derived.Deep.AppendLies
namespace Go.Proofs.YtjikghndoklajaaGreatDoor
open Go.RowKit

abbrev PowIs (w : World) : Prop := Lib.TabIs Tryz.prog w "internal/strconv.uint64pow10" .u64 Lib.pow10Tab
theorem pow_global : ∃ g, Tryz.prog.globalNamed "internal/strconv.uint64pow10" = some g :=
  Option.isSome_iff_exists.1 (show (Tryz.prog.globalNamed "internal/strconv.uint64pow10").isSome = true by kernel_rfl)
theorem pow_below {w w' : World} (h : PowIs w) (hb : Below w.heap.size w w') : PowIs w' := by
  obtain ⟨g, hg⟩ := pow_global
  unfold PowIs Lib.TabIs World.var? at h ⊢
  rw [hg] at h ⊢
  simp only [Option.bind_some] at h ⊢
  have hlt : g < w.heap.size := by
    rcases Nat.lt_or_ge g w.heap.size with h' | h'
    · exact h'
    · rw [Array.getElem?_eq_none h'] at h
      cases h
  rw [hb.block g hlt]
  exact h
theorem bound_text (k : Nat) : ((⟨#[61, 95]⟩ : ByteArray) ++ (⟨(Lib.itoa (k : Int)).toArray⟩ : ByteArray)) = textQ (boundR k) := by
  have e : Lib.itoa (k : Int) = Lib.decDigits k := by
    unfold Lib.itoa
    rw [if_neg (by omega), Int.toNat_natCast]
  apply ByteArray.ext
  rw [ByteArray.data_append, e]
  unfold textQ boundR
  simp
set_option maxRecDepth 100000 in
theorem gbound_any (k : Nat) (w : World) (hk : k ≤ 1000000) (ht : PowIs w) : Calls Tryz.prog 48 #[.int .i64 (k : Int)] w fun e w' => e = .returned (.string (textQ (boundR k))) ∧ Below w.heap.size w w' := by
  have hi := Tryz.strconv_Itoa (k : Int) (by omega) (by omega) w ht
  rw [← bound_text]
  obtain ⟨T, hT⟩ : ∃ T : ByteArray, (⟨(Lib.itoa (k : Int)).toArray⟩ : ByteArray) = T := ⟨_, rfl⟩
  have hTs : T.size ≤ 100 := by
    rw [← hT]
    show (Lib.itoa (k : Int)).length ≤ 100
    unfold Lib.itoa
    rw [if_neg (by omega), Int.toNat_natCast, Lib.decDigits_length]
    have := digits_short (u := k) (k := 6) (by omega)
    omega
  rw [hT] at hi ⊢
  replace hi : Calls Tryz.prog 83 #[.int .i64 (k : Int)] w fun e w' => e = .returned (.string T) ∧ Below w.heap.size w w' := hi.mono fun e w' ⟨h1, q, os, h2⟩ => ⟨h1, by rw [h2]; exact Lib.below_grow w.heap.size w (Nat.le_refl _) q os⟩
  clear hT ht
  go_enter Tryz.func48, Tryz.ntmps48
  go_wp2_with fail
  refine hi.mono ?_
  rintro e w1 ⟨rfl, hb⟩
  go_wp2
  go_ret
  exact ⟨rfl, hb⟩
theorem contains_sub (m : TextH) : ∀ s : TextH, Lib.contains s m = subB m s
  | [] => by
    unfold Lib.contains subB
    cases m with
    | nil => rfl
    | cons a t => rfl
  | c :: r => by
    have ih := contains_sub m r
    unfold Lib.contains at ih ⊢
    unfold subB
    unfold Lib.index
    by_cases h : m.isPrefixOf (c :: r) = true
    · rw [if_pos h, h]
      rfl
    · have h' : m.isPrefixOf (c :: r) = false := Bool.eq_false_iff.2 h
      rw [h', Bool.false_or, ← ih]
      rcases Lib.index_spec r m with ⟨e, _⟩ | ⟨i, e, _⟩
      · rw [e]
        rfl
      · rw [e]
        have : ((i : Int) == -1) = false := by rw [beq_eq_false_iff_ne]; omega
        simp [this]
        omega

def TextsAt (w : World) (B : Nat) (v : Value) (l : List TextH) : Prop :=
  ∃ ao cap, v = .slice ao l.length cap ∧ l.length ≤ cap ∧ cap ≤ maxLen ∧ ∀ i (hi : i < l.length), ∃ g off, ao = some ⟨g, off, none⟩ ∧ g < B ∧ w.cell? ⟨g, off + i, none⟩ = some (.string (textQ l[i]))
theorem TextsAt.below {w w' : World} {B B' : Nat} {v : Value} {l : List TextH} (h : TextsAt w B v l) (hb : Below B' w w') (hB : B ≤ B') : TextsAt w' B v l := by
  obtain ⟨ao, cap, h1, h2, h3, h4⟩ := h
  refine ⟨ao, cap, h1, h2, h3, fun i hi => ?_⟩
  obtain ⟨g, off, q1, q2, q3⟩ := h4 i hi
  exact ⟨g, off, q1, q2, (hb.cell (p := ⟨g, off + i, none⟩) (by show g < B'; omega)).trans q3⟩
theorem marks_size (k : Nat) (hk : k ≤ 1000000) : (textQ (boundR k)).size ≤ 20 := by
  show (boundR k).length ≤ 20
  unfold boundR
  rw [List.length_append, Lib.decDigits_length]
  have := digits_short (u := k) (k := 6) (by omega)
  simp
  omega
theorem mark_text (k : Nat) : ((⟨#[45, 45]⟩ : ByteArray) ++ textQ (boundR k)).data.toList = markR k := by
  rw [add_text, mark_bound]
  rfl

set_option maxRecDepth 100000 in
set_option maxHeartbeats 2000000 in
theorem gnum1_any (t : TextH) (k T : Nat) (m : Int) (w : World) (hk : k ≤ 1000000) (ht : PowIs w) (hs : t.length ≤ 1000000) (hm : w.cell? ⟨0, 0, none⟩ = some (.int .i64 m)) (hT : Boxed w T 3 (.int .i64 (k : Int))) :
    Calls Tryz.prog 90 #[.string (textQ t), .pointer (some ⟨T, 0, none⟩)] w fun e w' => e = .returned (.bool (subB (markR k) t)) ∧ Below w.heap.size w w' := by
  have hb := gbound_any k w hk ht
  have hcon : Hid (∀ W, Below w.heap.size w W → Calls Tryz.prog 91 #[.string (textQ t), .string (⟨#[45, 45]⟩ ++ textQ (boundR k))] W fun e w' => e = .returned (.bool (subB (markR k) t)) ∧ w' = W) := Lib.hid fun W hW => by
    have h2 := Tryz.strings_Contains (textQ t) (⟨#[45, 45]⟩ ++ textQ (boundR k)) m W (by show t.length < _; omega) ((hW.cell (p := ⟨0, 0, none⟩) (cell_ltP hm)).trans hm)
    rw [mark_text, show (textQ t).data.toList = t from rfl, contains_sub] at h2
    exact h2
  have hsz := marks_size k hk
  obtain ⟨X, hX⟩ : ∃ X, textQ (boundR k) = X := ⟨_, rfl⟩
  obtain ⟨Y, hY⟩ : ∃ Y, textQ t = Y := ⟨_, rfl⟩
  obtain ⟨r, hr⟩ : ∃ r, subB (markR k) t = r := ⟨_, rfl⟩
  rw [hX] at hb hcon hsz
  rw [hY, hr] at hcon
  rw [hY, hr]
  have c0 := hT.cell
  clear hX hY hr ht hm hT hs
  go_enter Tryz.func90, Tryz.ntmps90
  go_wp2_with fail
  refine hb.mono ?_
  rintro e w1 ⟨rfl, hw1⟩
  go_wp2_with fail
  refine (hcon.out w1 hw1).mono ?_
  rintro e w2 ⟨rfl, h9⟩
  obtain rfl := h9.symm
  go_wp2
  go_ret
  exact ⟨rfl, hw1⟩
theorem enter_num1 : ∀ args w, (callFunc 90 args).run Tryz.prog w = .ok (.enter 90 args) w := enters_of Tryz.func90 (by kernel_rfl) rfl

set_option maxRecDepth 100000 in
set_option maxHeartbeats 4000000 in
theorem gidxs_any (B : Nat) (v : Value) (l : List TextH) (k T : Nat) (m : Int) (w : World) (h : TextsAt w B v l) (hB : B ≤ w.heap.size) (hk : k ≤ 1000000) (ht : PowIs w) (hs : ∀ t ∈ l, t.length ≤ 1000000) (hm : w.cell? ⟨0, 0, none⟩ = some (.int .i64 m)) (hT : Boxed w T 3 (.int .i64 (k : Int))) :
    Calls Tryz.prog 126 #[v, .func (.func 90) #[] #[.pointer (some ⟨T, 0, none⟩)]] w fun e w' => (∃ x : Int, e = .returned (.int .i64 x) ∧ (decide (0 ≤ x) = standsB l k)) ∧ Below w.heap.size w w' := by
  obtain ⟨ao, cap, rfl, hc1, hc2, hat⟩ := h
  have Hat := Lib.hid hat
  obtain ⟨n, hnl⟩ : ∃ n, l.length = n := ⟨_, rfl⟩
  have Hn := Lib.hid hnl
  unfold maxLen at hc2
  obtain ⟨R, hR⟩ : ∃ R, standsB l k = R := ⟨_, rfl⟩
  rw [hnl] at hc1 ⊢
  rw [hR]
  have HR := Lib.hid hR
  have he := enter_num1
  have Hc : Hid (∀ W t, Below w.heap.size w W → t ∈ l → Calls Tryz.prog 90 #[.string (textQ t), .pointer (some ⟨T, 0, none⟩)] W fun e w' => e = .returned (.bool (subB (markR k) t)) ∧ Below W.heap.size W w') := Lib.hid fun W t hW htl =>
    gnum1_any t k T m W hk (pow_below ht hW) (hs t htl) ((hW.cell (p := ⟨0, 0, none⟩) (cell_ltP hm)).trans hm) (boxed_below hT hW)
  clear hat hnl hR ht hm hT hs
  go_enter Tryz.func126, Tryz.ntmps126
  go_wp2
  go_loopw [8] (fun iv wr => ∃ i : Nat, i ≤ n ∧ iv = .int .i64 i ∧ Hid (∀ j (hj : j < l.length), j < i → subB (markR k) l[j] = false) ∧ Below w.heap.size w wr) (fun iv _ => n - (intOf iv).toNat)
  case atStart => exact ⟨0, by omega, rfl, Lib.hid (fun j _ h => by omega), Below.refl _ _⟩
  case round =>
    obtain ⟨i, hi, rfl, hg, hbr⟩ := hrel
    by_cases hlt : i < n
    · have hil : i < l.length := by rw [Hn.out]; exact hlt
      obtain ⟨g, off, rfl, hgB, z0⟩ := Hat.out i hil
      have hcall := Hc.out wr l[i] hbr (List.getElem_mem hil)
      have hyes : Hid (subB (markR k) l[i] = true → R = true) := Lib.hid fun h => HR.out.symm.trans (List.any_eq_true.2 ⟨l[i], List.getElem_mem hil, h⟩)
      have hno : Hid (subB (markR k) l[i] = false → ∀ j (hj : j < l.length), j < i + 1 → subB (markR k) l[j] = false) := Lib.hid fun h j hj h3 => by
        rcases Nat.lt_or_ge j i with h4 | h4
        · exact hg.out j hj h4
        · obtain rfl : j = i := by omega
          exact h
      obtain ⟨f, hf⟩ : ∃ f, l[i] = f := ⟨_, rfl⟩
      rw [hf] at z0 hcall hyes hno
      obtain ⟨X, hX⟩ : ∃ X, textQ f = X := ⟨_, rfl⟩
      rw [hX] at z0 hcall
      have y0 := (hbr.cell (p := ⟨g, off + i, none⟩) (by show g < w.heap.size; omega)).trans z0
      have hbz := hbr.size
      clear z0 hX hg hil hf
      obtain ⟨q, hq⟩ : ∃ q, subB (markR k) f = q := ⟨_, rfl⟩
      rw [hq] at hcall hyes hno
      clear hq
      cases q with
      | true =>
        have Hr := Lib.hid (hyes.out rfl)
        clear hyes hno
        go_wp2_with (go_at_fn 90; refine hcall.mono ?_; rintro e w1 ⟨rfl, hw1⟩)
        have hb1 := hbr.trans (hw1.mono hbz)
        go_ret
        exact ⟨⟨(i : Int), rfl, by rw [Hr.out]; exact decide_eq_true (by omega)⟩, hb1⟩
      | false =>
        have Hr := Lib.hid (hno.out rfl)
        clear hyes hno
        go_wp2_with (go_at_fn 90; refine hcall.mono ?_; rintro e w1 ⟨rfl, hw1⟩)
        have hb1 := hbr.trans (hw1.mono hbz)
        go_roundw
        case rel => exact ⟨i + 1, by omega, by go_num, Hr, hb1⟩
        case measure => simp [intOf]; omega
    · obtain rfl : i = n := by omega
      have Hall := Lib.hid (show R = false from by
        rw [← HR.out]
        unfold standsB
        rw [List.any_eq_false]
        intro x hx
        obtain ⟨j, hj, rfl⟩ := List.mem_iff_getElem.1 hx
        rw [hg.out j hj (by rw [← Hn.out]; exact hj)]
        simp)
      clear hg
      go_wp2
      go_ret
      exact ⟨⟨-1, rfl, by rw [Hall.out]; rfl⟩, hbr⟩
set_option maxRecDepth 100000 in
set_option maxHeartbeats 4000000 in
theorem gcons_any (B : Nat) (v : Value) (l : List TextH) (k T : Nat) (m : Int) (w : World) (h : TextsAt w B v l) (hB : B ≤ w.heap.size) (hk : k ≤ 1000000) (ht : PowIs w) (hs : ∀ t ∈ l, t.length ≤ 1000000) (hm : w.cell? ⟨0, 0, none⟩ = some (.int .i64 m)) (hT : Boxed w T 3 (.int .i64 (k : Int))) :
    Calls Tryz.prog 89 #[v, .func (.func 90) #[] #[.pointer (some ⟨T, 0, none⟩)]] w fun e w' => e = .returned (.bool (standsB l k)) ∧ Below w.heap.size w w' := by
  have hi := gidxs_any B v l k T m w h hB hk ht hs hm hT
  obtain ⟨R, hR⟩ : ∃ R, standsB l k = R := ⟨_, rfl⟩
  rw [hR] at hi ⊢
  clear h hs ht hm hT hR
  go_enter Tryz.func89, Tryz.ntmps89
  go_wp2_with fail
  refine hi.mono ?_
  rintro e w1 ⟨⟨x, rfl, hx⟩, hw1⟩
  go_wp2
  go_ret
  exact ⟨rfl, hw1⟩
def boxNat (w : World) (T : Nat) : Nat := match w.cell? ⟨T, 0, none⟩ with
  | some v => (intOf v).toNat
  | none => 0
theorem box_nat {w : World} {T k : Nat} (h : Boxed w T 3 (.int .i64 (k : Int))) : boxNat w T = k := by
  unfold boxNat
  rw [h.cell]
  simp [intOf]
set_option maxRecDepth 100000 in
set_option maxHeartbeats 4000000 in
theorem gnumfor_any (B : Nat) (v : Value) (l : List TextH) (m : Int) (w : World) (h : TextsAt w B v l) (hB : B ≤ w.heap.size) (ht : PowIs w) (hl : l.flatten.length ≤ 16384) (hm : w.cell? ⟨0, 0, none⟩ = some (.int .i64 m)) :
    Calls Tryz.prog 57 #[v] w fun e w' => e = .returned (.int .i64 (numR l : Int)) ∧ Below w.heap.size w w' := by
  obtain ⟨n1, n2, n3⟩ := num_spec hl
  obtain ⟨N, hN⟩ : ∃ N, numR l = N := ⟨_, rfl⟩
  rw [hN] at n1 n2 n3 ⊢
  have hs : ∀ t ∈ l, t.length ≤ 1000000 := fun t ht => by
    have := (List.sublist_flatten_of_mem ht).length_le
    omega
  have Hc : Hid (∀ W k, Below w.heap.size w W → k ≤ N → Boxed W w.heap.size 3 (.int .i64 (k : Int)) → Calls Tryz.prog 89 #[v, .func (.func 90) #[] #[.pointer (some ⟨w.heap.size, 0, none⟩)]] W fun e w' => e = .returned (.bool (decide (k < N))) ∧ Below W.heap.size W w') := Lib.hid fun W k hW hk hT => by
    have := gcons_any B v l k w.heap.size m W (h.below hW hB) (by have := hW.size; omega) (by omega) (pow_below ht hW) hs ((hW.cell (p := ⟨0, 0, none⟩) (cell_ltP hm)).trans hm) hT
    rw [show standsB l k = decide (k < N) from by
      by_cases hkn : k < N
      · rw [decide_eq_true hkn]
        exact (stands_iff l k).2 (n3 k hkn)
      · rw [decide_eq_false hkn]
        obtain rfl : k = N := by omega
        exact Bool.eq_false_iff.2 fun e => n1 ((stands_iff l k).1 e)] at this
    exact this
  have hmf : ∀ (fn : Fn) (first cap : Array Value) (w : World), (Instr.makeFunc fn first cap).run Tryz.prog w = .ok (.func fn first cap) w := fun _ _ _ _ => rfl
  have x0 : Boxed (w.alloc (.cells #[.int .i64 0] 3)) w.heap.size 3 (.int .i64 ((0 : Nat) : Int)) := Boxed.new _ _ _
  have b0 : Below w.heap.size w (w.alloc (.cells #[.int .i64 0] 3)) := (Below.refl _ _).alloc (Nat.le_refl _) _
  have K0 := Lib.hid (And.intro x0 b0)
  have hnb : N ≤ 81925 := n2
  clear h ht hm hs n1 n2 n3 hl hN x0 b0
  go_enter Tryz.func57, Tryz.ntmps57
  go_wp2
  go_loopw [6] (fun _ wr => ∃ k : Nat, k ≤ N ∧ Hid (Boxed wr w.heap.size 3 (.int .i64 (k : Int)) ∧ Below w.heap.size w wr)) (fun _ wr => N - boxNat wr w.heap.size)
  case atStart => exact ⟨0, by omega, K0⟩
  case round =>
    clear K0
    obtain ⟨k, hk, hkk⟩ := hrel
    have hcall := Hc.out wr k hkk.out.2 hk hkk.out.1
    by_cases hlt : k < N
    · rw [decide_eq_true hlt] at hcall
      have K := Lib.hid hkk.out
      clear hkk
      go_wp2_with (go_at_call 89
                   refine hcall.mono ?_
                   rintro e w1 ⟨rfl, hw1⟩
                   have x1 := boxed_below K.out.1 hw1
                   have K1 := Lib.hid (And.intro x1 (And.intro (K.out.2.trans (hw1.mono K.out.2.size)) (box_nat K.out.1)))
                   have c1 := x1.cell
                   have f1 := Lib.frozen_of_heap x1 0
                   have x2 := x1.set (.int .i64 ((k : Int) + 1))
                   have K2 := Lib.hid (show Boxed (w1.setCell ⟨w.heap.size, 0, none⟩ (.int .i64 ((k : Int) + 1))) w.heap.size 3 (.int .i64 ((k + 1 : Nat) : Int)) ∧ Below w.heap.size w (w1.setCell ⟨w.heap.size, 0, none⟩ (.int .i64 ((k : Int) + 1))) from ⟨x2, K1.out.2.1.setCell (p := ⟨w.heap.size, 0, none⟩) (Nat.le_refl _) _⟩)
                   clear hw1 x1 x2 hcall)
      refine ⟨⟨k + 1, by omega, K2⟩, ?_⟩
      rw [box_nat K2.out.1, K1.out.2.2]
      omega
    · obtain rfl : k = N := by omega
      rw [decide_eq_false hlt] at hcall
      have K := Lib.hid hkk.out
      clear hkk
      go_wp2_with fail
      refine hcall.mono ?_
      rintro e w1 ⟨rfl, hw1⟩
      have c1 := (boxed_below K.out.1 hw1).cell
      have Fin := Lib.hid (K.out.2.trans (hw1.mono K.out.2.size))
      clear hw1 hcall
      go_wp2
      go_ret
      exact ⟨rfl, Fin.out⟩
end Go.Proofs.YtjikghndoklajaaGreatDoor
namespace Go.Proofs.YtjikghndoklajaaGreatDoor
open Go.RowKit

def GLayPost (p : TreeM) (w : World) (e : Ending) (w' : World) : Prop := Below w.heap.size w w' ∧
  ((layD p).2 = 0 → ∃ fv pv rv, e = .returned (.tuple #[laidV (layD p).1.1 fv pv rv (layD p).1.2, .int .i64 0]) ∧ TreeP w' (fun g => w.heap.size ≤ g) (layD p).1.1 fv pv rv) ∧
  ((layD p).2 ≠ 0 → e = .returned (.tuple #[noneV, .int .i64 (layD p).2]))

theorem infoStrG : (Tryz.prog.info? 9).map (fun i => (i.zero, i.size, i.bytes)) = some (some (.string ⟨#[]⟩), 1, 16) := by kernel_rfl
abbrev TextsG (w : World) (B : Nat) (v : Value) (l : List TextH) : Prop := w.ownsRow B 9 1 v l.length (l.map fun x => .string (textQ x))
section
variable {w : World} {ops : Array Oper} {o : Oper} {a : Act} {K : Act → World → Prop} {Q : Exit → Act → World → Prop} {E : Prop}
theorem step_textG (hgd : o.guard = none) (s x : Operand)
    (ho : o.op = .call { callee := .builtin .append, args := #[s, x], argTypes := #[49, 49] }) (B : Nat) (v : Value) (l : List TextH) (p : TextH) (hs : a.eval s = v) (hown : TextsG w B v l) (hB : B ≤ w.heap.size) (hl : l.length ≤ 1000000)
    (b c : Nat) (hx : a.eval x = .slice (some ⟨b, 0, none⟩) 1 c) (h0 : w.cell? ⟨b, 0, none⟩ = some (.string (textQ p)))
    (h : ∀ v' w', TextsG w' B v' (l ++ [p]) → w.grownBy w' v.ownBlock → (v'.ownBlock = v.ownBlock ∨ v'.ownBlock = some w.heap.size) → K (a.put o.dst v') w') : if Region.wanted o (yielded ops a.tmps) = true then Oper.wp Tryz.prog o a w K Q else E := by
  obtain ⟨i0, hi, hz0, hz1, hz2⟩ := info_parts infoStrG
  refine step_append_lies w hgd s x 49 ho B 9 i0 (.string ⟨#[]⟩) 1 16 Tryz.underlying49 hi hz0 hz1 hz2 rfl (by decide) v l.length _ hs hown ⟨b, 0, none⟩ 1 c [.string (textQ p)] hx rfl (fun j u hj => ?_) (fun u hu => ?_) (by decide) (by unfold maxLen; omega) (by omega) hB _ rfl (fun g cap w' q1 q2 q3 _ => h _ w' ?_ q2 ?_)
  · rw [Addr.add_lit, Nat.zero_add]
    match j, hj with
    | 0, hj => cases hj; exact h0
    | j + 1, hj => cases hj
  · rw [List.mem_singleton.1 hu]
    rfl
  · unfold TextsG
    rw [List.length_append, List.map_append]
    exact q1
  · rcases q3 with q3 | q3
    · exact .inl q3.symm
    · subst q3
      exact .inr rfl
theorem step_partG (hgd : o.guard = none) (s x : Operand)
    (ho : o.op = .call { callee := .builtin .append, args := #[s, x], argTypes := #[27, 27] }) (B : Nat) (v : Value) (l : List KidM) (p : KidM) (hs : a.eval s = v) (hown : PartsOwn w B v l) (hB : B ≤ w.heap.size) (hl : l.length ≤ 1000000)
    (b c : Nat) (hx : a.eval x = .slice (some ⟨b, 0, none⟩) 1 c) (h0 : ∀ j, j < 6 → w.cell? ⟨b, j, none⟩ = (kidCells p)[j]?)
    (hp1 : p.2.1.oneCell' = true) (hp2 : p.2.2.1.oneCell' = true) (hp3 : p.2.2.2.oneCell' = true)
    (h : ∀ v' w', PartsOwn w' B v' (l ++ [p]) → w.grownBy w' v.ownBlock → (v'.ownBlock = v.ownBlock ∨ v'.ownBlock = some w.heap.size) → K (a.put o.dst v') w') : if Region.wanted o (yielded ops a.tmps) = true then Oper.wp Tryz.prog o a w K Q else E := by
  obtain ⟨i0, hi, hz0, hz1, hz2⟩ := info_parts infoPart
  refine step_append_lies w hgd s x 27 ho B 29 i0 _ 6 120 Tryz.underlying27 hi hz0 hz1 hz2 rfl (by decide) v l.length _ hs hown ⟨b, 0, none⟩ 1 c (kidCells p) hx rfl (fun j u hj => ?_) (fun u hu => ?_) (by decide) (by unfold maxLen; omega) (by omega) hB _ rfl (fun g cap w' q1 q2 q3 _ => h _ w' ?_ q2 ?_)
  · rw [Addr.add_lit, Nat.zero_add]
    have hj6 : j < 6 := by
      rcases Nat.lt_or_ge j 6 with h6 | h6
      · exact h6
      · rw [List.getElem?_eq_none (by simp [kidCells]; omega)] at hj
        cases hj
    rw [h0 j hj6]
    exact hj
  · simp only [kidCells, List.mem_cons, List.not_mem_nil, or_false] at hu
    rcases hu with rfl | rfl | rfl | rfl | rfl | rfl
    · exact hp1
    · rfl
    · rfl
    · exact hp2
    · rfl
    · exact hp3
  · unfold PartsOwn
    rw [List.length_append, show kidsCells (l ++ [p]) = kidsCells l ++ kidCells p by simp [kidsCells]]
    exact q1
  · rcases q3 with q3 | q3
    · exact .inl q3.symm
    · subst q3
      exact .inr rfl
end
theorem rows_apart {w : World} {B C e f sz tz n m : Nat} {u v : Value} {xs ys : List Value} (h : w.ownsRow B e sz u n xs) (k : w.ownsRow C f tz v m ys) (hef : e ≠ f) : ∀ g, u.ownBlock = some g → v.ownBlock ≠ some g := fun g hu hv => by
  rcases h.2 with ⟨rfl, _⟩ | ⟨g1, c1, x1, rfl, _, h1, _⟩
  · cases hu
  rcases k.2 with ⟨rfl, _⟩ | ⟨g2, c2, x2, rfl, _, h2, _⟩
  · cases hv
  cases hu
  cases hv
  rw [h1] at h2
  cases h2
  exact hef rfl
theorem own_belowG {w w' : World} {B e size n : Nat} {v : Value} {xs : List Value} (h : w.ownsRow B e size v n xs) (hb : Below w.heap.size w w') : w'.ownsRow B e size v n xs :=
  ⟨h.1, h.2.imp id fun ⟨g, cap, cur, h1, h2, h3, h4⟩ => ⟨g, cap, cur, h1, h2, (hb.block g (heap_lt h3)).trans h3, h4⟩⟩
theorem own_grownG {w w' : World} {B e size n : Nat} {v : Value} {xs : List Value} {r : Option Nat} (h : w.ownsRow B e size v n xs) (hg : w.grownBy w' r) (hr : ∀ g, v.ownBlock = some g → r ≠ some g) : w'.ownsRow B e size v n xs :=
  ⟨h.1, h.2.imp id fun ⟨g, cap, cur, h1, h2, h3, h4⟩ => ⟨g, cap, cur, h1, h2, (hg.block g (heap_lt h3) fun e => hr g (by rw [h1]; rfl) e.symm).trans h3, h4⟩⟩
structure MultW (V : World) (u1 u2 : Value) (B : Nat) (W : World) (v1 v2 : Value) (kids : List KidM) (ts : List TextH) : Prop where
  own1 : PartsOwn W B v1 kids
  own2 : TextsG W B v2 ts
  keep : ∀ g, g < V.heap.size → u1.ownBlock ≠ some g → u2.ownBlock ≠ some g → W.heap[g]? = V.heap[g]?
  size : V.heap.size ≤ W.heap.size
  n1 : v1.ownBlock = u1.ownBlock ∨ ∃ g, v1.ownBlock = some g ∧ V.heap.size ≤ g
  n2 : v2.ownBlock = u2.ownBlock ∨ ∃ g, v2.ownBlock = some g ∧ V.heap.size ≤ g
  os : W.os = V.os
  tape : W.tape = V.tape
  out : W.output = V.output
section
variable {V W W' : World} {u1 u2 v1 v2 : Value} {B : Nat} {kids : List KidM} {ts : List TextH}
theorem MultW.start (h : PartsOwn V B u1 kids) (k : TextsG V B u2 ts) : MultW V u1 u2 B V u1 u2 kids ts := ⟨h, k, fun _ _ _ _ => rfl, Nat.le_refl _, .inl rfl, .inl rfl, rfl, rfl, rfl⟩
theorem MultW.below (h : MultW V u1 u2 B W v1 v2 kids ts) (hb : Below W.heap.size W W') : MultW V u1 u2 B W' v1 v2 kids ts :=
  ⟨own_belowG h.own1 hb, own_belowG h.own2 hb, fun g h1 h2 h3 => (hb.block g (Nat.lt_of_lt_of_le h1 h.size)).trans (h.keep g h1 h2 h3), Nat.le_trans h.size hb.size, h.n1, h.n2, hb.os.trans h.os, hb.tape.trans h.tape, hb.output.trans h.out⟩
theorem MultW.alloc (h : MultW V u1 u2 B W v1 v2 kids ts) (ob : Obj) : MultW V u1 u2 B (W.alloc ob) v1 v2 kids ts := h.below ((Below.refl _ _).alloc (Nat.le_refl _) _)
theorem MultW.drew (h : MultW V u1 u2 B W v1 v2 kids ts) : MultW V u1 u2 B W.drew v1 v2 kids ts := h.below (Below.refl _ _).drew
theorem MultW.far1 (h : MultW V u1 u2 B W v1 v2 kids ts) {g : Nat} (h1 : g < V.heap.size) (h2 : u1.ownBlock ≠ some g) : v1.ownBlock ≠ some g := fun e => by
  rcases h.n1 with n | ⟨k, n, hk⟩
  · exact h2 (n ▸ e)
  · rw [n] at e
    have := Option.some.inj e
    omega
theorem MultW.far2 (h : MultW V u1 u2 B W v1 v2 kids ts) {g : Nat} (h1 : g < V.heap.size) (h2 : u2.ownBlock ≠ some g) : v2.ownBlock ≠ some g := fun e => by
  rcases h.n2 with n | ⟨k, n, hk⟩
  · exact h2 (n ▸ e)
  · rw [n] at e
    have := Option.some.inj e
    omega
theorem MultW.app1 (h : MultW V u1 u2 B W v1 v2 kids ts) {v' : Value} {q : KidM} (ho : PartsOwn W' B v' (kids ++ [q])) (hg : W.grownBy W' v1.ownBlock) (hv : v'.ownBlock = v1.ownBlock ∨ v'.ownBlock = some W.heap.size) : MultW V u1 u2 B W' v' v2 (kids ++ [q]) ts :=
  ⟨ho, own_grownG h.own2 hg fun g e e2 => rows_apart h.own1 h.own2 (by decide) g e2 e, fun g h1 h2 h3 => (hg.block g (Nat.lt_of_lt_of_le h1 h.size) fun e => h.far1 h1 h2 e.symm).trans (h.keep g h1 h2 h3), Nat.le_trans h.size hg.size,
    hv.elim (fun e => e ▸ h.n1) (fun e => .inr ⟨_, e, h.size⟩), h.n2, hg.os.trans h.os, hg.tape.trans h.tape, hg.output.trans h.out⟩
theorem MultW.app2 (h : MultW V u1 u2 B W v1 v2 kids ts) {v' : Value} {q : TextH} (ho : TextsG W' B v' (ts ++ [q])) (hg : W.grownBy W' v2.ownBlock) (hv : v'.ownBlock = v2.ownBlock ∨ v'.ownBlock = some W.heap.size) : MultW V u1 u2 B W' v1 v' kids (ts ++ [q]) :=
  ⟨own_grownG h.own1 hg fun g e e2 => rows_apart h.own1 h.own2 (by decide) g e e2, ho, fun g h1 h2 h3 => (hg.block g (Nat.lt_of_lt_of_le h1 h.size) fun e => h.far2 h1 h3 e.symm).trans (h.keep g h1 h2 h3), Nat.le_trans h.size hg.size,
    h.n1, hv.elim (fun e => e ▸ h.n2) (fun e => .inr ⟨_, e, h.size⟩), hg.os.trans h.os, hg.tape.trans h.tape, hg.output.trans h.out⟩
theorem MultW.block (h : MultW V u1 u2 B W v1 v2 kids ts) (hown : ∀ g, (u1.ownBlock = some g ∨ u2.ownBlock = some g) → B ≤ g) {N : Nat} (hN : N < V.heap.size) (hNe : N < B ∨ (u1.ownBlock ≠ some N ∧ u2.ownBlock ≠ some N)) : W.heap[N]? = V.heap[N]? := by
  rcases hNe with hN2 | ⟨h1, h2⟩
  · exact h.keep N hN (fun e => by have := hown N (.inl e); omega) (fun e => by have := hown N (.inr e); omega)
  · exact h.keep N hN h1 h2
theorem MultW.low (h : MultW V u1 u2 B W v1 v2 kids ts) (hown : ∀ g, (u1.ownBlock = some g ∨ u2.ownBlock = some g) → B ≤ g) (hB : B ≤ V.heap.size) : Below B V W :=
  ⟨h.os, h.tape, h.out, h.size, fun _ hk => h.block hown (Nat.lt_of_lt_of_le hk hB) (.inl hk)⟩
end
end Go.Proofs.YtjikghndoklajaaGreatDoor
namespace Go.Proofs.YtjikghndoklajaaGreatDoor
open Go.RowKit

def togR (mk : TextH) (l : List TextH) : TextH := l.flatMap fun t => mk ++ 13 :: 10 :: (t ++ [13, 10])
theorem div_tog (mk : TextH) : ∀ l : List TextH, divTextM mk l = togR mk l ++ (mk ++ [45, 45, 13, 10])
  | [] => rfl
  | t :: l => by
    unfold divTextM togR
    rw [div_tog mk l, List.flatMap_cons]
    unfold togR
    simp
theorem tog_take (mk : TextH) (l : List TextH) (i : Nat) (h : i < l.length) : togR mk (l.take (i + 1)) = (togR mk (l.take i) ++ (mk ++ [13, 10])) ++ (l[i] ++ [13, 10]) := by
  unfold togR
  rw [List.take_succ_eq_append_getElem h, List.flatMap_append, List.flatMap_cons, List.flatMap_nil]
  simp
theorem tog_len (mk : TextH) : ∀ l : List TextH, (togR mk l).length = l.flatten.length + l.length * (mk.length + 4)
  | [] => by simp [togR]
  | t :: l => by
    have ih := tog_len mk l
    unfold togR at ih ⊢
    rw [List.flatMap_cons, List.length_append, ih]
    simp [Nat.add_mul]
    omega
theorem tog_small {mk : TextH} {l : List TextH} (hl : l.length ≤ 1000) (hm : mk.length ≤ 1000) (hf : l.flatten.length ≤ 10000000) (i : Nat) : (togR mk (l.take i)).length ≤ 20000000 := by
  rw [tog_len]
  have h1 : (l.take i).length ≤ 1000 := by rw [List.length_take]; omega
  have h2 : (l.take i).flatten.length ≤ l.flatten.length := by
    have e := congrArg List.length (congrArg List.flatten (List.take_append_drop i l))
    rw [List.flatten_append, List.length_append] at e
    omega
  have h3 : (l.take i).length * (mk.length + 4) ≤ 1000 * 1004 := Nat.mul_le_mul h1 (by omega)
  omega

set_option maxRecDepth 100000 in
set_option maxHeartbeats 4000000 in
theorem gdiv_any (B b X : Nat) (acc bd bh : TextH) (w : World) (h : Lib.IsBuilder 113 5 B b (Lib.byteCells acc) w) (hB : B ≤ w.heap.size) (hX : Boxed w X 9 (.string (textQ bd))) (ha : acc.length ≤ 100000000) (hd : bd.length ≤ 1000) (hh : bh.length ≤ 1000) :
    Calls Tryz.prog 92 #[.string (textQ bh), .pointer (some ⟨b, 0, none⟩), .pointer (some ⟨X, 0, none⟩)] w fun e w' => e = .returned (.tuple #[]) ∧ Lib.IsBuilder 113 5 B b (Lib.byteCells (acc ++ (45 :: 45 :: bd ++ bh ++ [13, 10]))) w' ∧ Below B w w' := by
  have c0 := hX.cell
  have hw := bwrite_any B b (Lib.byteCells acc) (⟨#[45, 45]⟩ ++ textQ bd ++ textQ bh ++ ⟨#[13, 10]⟩) w h (by
    rw [Lib.byteCells_length]
    have e : (⟨#[45, 45]⟩ ++ textQ bd ++ textQ bh ++ ⟨#[13, 10]⟩ : ByteArray).size = 2 + bd.length + bh.length + 2 := by
      simp only [ByteArray.size_append]
      rfl
    omega) hB
  rw [show Lib.byteCells acc ++ Lib.strCells (⟨#[45, 45]⟩ ++ textQ bd ++ textQ bh ++ ⟨#[13, 10]⟩) = Lib.byteCells (acc ++ (45 :: 45 :: bd ++ bh ++ [13, 10])) by
    rw [Lib.byteCells_append]
    congr 1] at hw
  have sD : (textQ bd).size ≤ 1000 := hd
  have sH : (textQ bh).size ≤ 1000 := hh
  obtain ⟨D, hD⟩ : ∃ D, textQ bd = D := ⟨_, rfl⟩
  obtain ⟨H, hH⟩ : ∃ H, textQ bh = H := ⟨_, rfl⟩
  rw [hD] at c0 hw sD
  rw [hH] at hw sH
  rw [hH]
  clear hD hH h hX ha hd hh
  go_enter Tryz.func92, Tryz.ntmps92
  go_wp2_with fail
  refine hw.mono ?_
  rintro e w1 ⟨rfl, hb, hbw⟩
  have Fin := Lib.hid (And.intro hb hbw)
  clear hw hb hbw
  go_wp2
  exact bodyPost_end (results_none rfl _ _ _) rfl ⟨rfl, .inr Fin.out.1, Fin.out.2⟩
theorem enter_div : ∀ args w, (callFunc 92 args).run Tryz.prog w = .ok (.enter 92 args) w := enters_of Tryz.func92 (by kernel_rfl) rfl

set_option maxRecDepth 100000 in
set_option maxHeartbeats 8000000 in
theorem gtog_any (B : Nat) (v : Value) (l : List TextH) (bd : TextH) (w : World) (h : TextsAt w B v l) (hB : B ≤ w.heap.size) (hl : l.length ≤ 1000) (hd : bd.length ≤ 900) (hf : l.flatten.length ≤ 10000000) :
    Calls Tryz.prog 58 #[v, .string (textQ bd)] w fun e w' => e = .returned (.string (textQ (divTextM (45 :: 45 :: bd) l))) ∧ Below w.heap.size w w' := by
  obtain ⟨ao, cap, rfl, hc1, hc2, hat⟩ := h
  have Hat := Lib.hid hat
  obtain ⟨n, hnl⟩ : ∃ n, l.length = n := ⟨_, rfl⟩
  have Hn := Lib.hid hnl
  unfold maxLen at hc2
  have Hs := Lib.hid (fun i => tog_small (mk := 45 :: 45 :: bd) hl (by simp; omega) hf i)
  have Hm := Lib.hid (fun (t : TextH) (ht : t ∈ l) => Nat.le_trans (List.sublist_flatten_of_mem ht).length_le hf)
  rw [hnl] at hc1 hl ⊢
  obtain ⟨w1, hw1⟩ : ∃ w1, (w.alloc (.cells #[.string (textQ bd)] 9)).alloc (.cells #[.pointer none, .slice none 0 0] 113) = w1 := ⟨_, rfl⟩
  have z1 : w1.heap.size = w.heap.size + 2 := by rw [← hw1]; simp
  have x1 : Boxed w1 w.heap.size 9 (.string (textQ bd)) := by
    rw [← hw1]
    exact boxed_below (Boxed.new w 9 (.string (textQ bd))) ((Below.refl _ _).alloc (Nat.le_refl _) _)
  have d1 : Lib.IsBuilder 113 5 (w.heap.size + 1) (w.heap.size + 1) (Lib.byteCells []) w1 := by
    rw [← hw1]
    have := Lib.fresh_isBuilder 113 5 (w.alloc (.cells #[.string (textQ bd)] 9))
    rw [World.size_alloc] at this
    exact this
  have b1 : Below w.heap.size w w1 := by rw [← hw1]; exact ((Below.refl _ _).alloc (Nat.le_refl _) _).alloc (by simp) _
  have Hd : Hid (∀ W acc bh, Boxed W w.heap.size 9 (.string (textQ bd)) → Lib.IsBuilder 113 5 (w.heap.size + 1) (w.heap.size + 1) (Lib.byteCells acc) W → w.heap.size + 1 ≤ W.heap.size → acc.length ≤ 100000000 → bh.length ≤ 1000 → Calls Tryz.prog 92 #[.string (textQ bh), .pointer (some ⟨w.heap.size + 1, 0, none⟩), .pointer (some ⟨w.heap.size, 0, none⟩)] W fun e w' => e = .returned (.tuple #[]) ∧ Lib.IsBuilder 113 5 (w.heap.size + 1) (w.heap.size + 1) (Lib.byteCells (acc ++ (45 :: 45 :: bd ++ bh ++ [13, 10]))) w' ∧ Below (w.heap.size + 1) W w') := Lib.hid fun W acc bh hx hb hz ha hh => gdiv_any (w.heap.size + 1) (w.heap.size + 1) w.heap.size acc bd bh W hb hz hx ha (by omega) hh
  obtain ⟨R, hR⟩ : ∃ R, divTextM (45 :: 45 :: bd) l = R := ⟨_, rfl⟩
  rw [hR]
  have HR := Lib.hid hR
  have he := enter_div
  have hmf : ∀ (fn : Fn) (first cap : Array Value) (w : World), (Instr.makeFunc fn first cap).run Tryz.prog w = .ok (.func fn first cap) w := fun _ _ _ _ => rfl
  have K1 := Lib.hid (And.intro x1 (And.intro d1 (And.intro b1 (show w.heap.size + 1 ≤ w1.heap.size by omega))))
  clear hat hnl x1 d1 b1 hR hf
  go_enter Tryz.func58, Tryz.ntmps58
  go_wp2
  go_loopw [12] (fun iv wr => ∃ i : Nat, i ≤ n ∧ iv = .int .i64 i ∧ Hid (Boxed wr w.heap.size 9 (.string (textQ bd)) ∧ Lib.IsBuilder 113 5 (w.heap.size + 1) (w.heap.size + 1) (Lib.byteCells (togR (45 :: 45 :: bd) (l.take i))) wr ∧ Below w.heap.size w wr ∧ w.heap.size + 1 ≤ wr.heap.size)) (fun iv _ => n - (intOf iv).toNat)
  case atStart => exact ⟨0, by omega, rfl, K1⟩
  case round =>
    clear K1
    obtain ⟨i, hi, rfl, hk⟩ := hrel
    by_cases hlt : i < n
    · have hil : i < l.length := by rw [Hn.out]; exact hlt
      obtain ⟨g, off, rfl, hgB, z0⟩ := Hat.out i hil
      have htk := tog_take (45 :: 45 :: bd) l i hil
      have hti := Hm.out l[i] (List.getElem_mem hil)
      have hacc := Hs.out i
      obtain ⟨t, ht⟩ : ∃ t, l[i] = t := ⟨_, rfl⟩
      rw [ht] at z0 htk hti
      obtain ⟨acc, hac⟩ : ∃ acc, togR (45 :: 45 :: bd) (l.take i) = acc := ⟨_, rfl⟩
      rw [hac] at htk hacc
      have K := Lib.hid (show Boxed wr w.heap.size 9 (.string (textQ bd)) ∧ Lib.IsBuilder 113 5 (w.heap.size + 1) (w.heap.size + 1) (Lib.byteCells acc) wr ∧ Below w.heap.size w wr ∧ w.heap.size + 1 ≤ wr.heap.size from by rw [← hac]; exact hk.out)
      have y0 := (K.out.2.2.1.cell (p := ⟨g, off + i, none⟩) (by show g < w.heap.size; omega)).trans z0
      have hcall := Hd.out wr acc [] K.out.1 K.out.2.1 K.out.2.2.2 (by omega) (by simp)
      rw [show textQ [] = (⟨#[]⟩ : ByteArray) from rfl] at hcall
      have Htk := Lib.hid htk
      have sT : (textQ t).size ≤ 10000000 := by show t.length ≤ _; omega
      have hat2 : acc.length + (2 + bd.length + 0 + 2) + (t.length + 2) ≤ 100000000 := by omega
      have Hsz := Lib.hid (And.intro hat2 (And.intro hd hl))
      clear z0 hk hac htk hacc hti ht hil hat2
      obtain ⟨T, hT⟩ : ∃ T, textQ t = T := ⟨_, rfl⟩
      have HT := Lib.hid hT
      rw [hT] at y0 sT
      clear hT
      go_wp2_with fail
      refine hcall.mono ?_
      rintro e w2 ⟨rfl, hb2, hw2⟩
      have hz2 := hw2.size
      have K2 := Lib.hid (show Boxed w2 w.heap.size 9 (.string (textQ bd)) ∧ Below w.heap.size w w2 ∧ w.heap.size + 1 ≤ w2.heap.size from ⟨(hw2.block _ (by omega)).trans K.out.1, K.out.2.2.1.trans (hw2.mono (by omega)), Nat.le_trans K.out.2.2.2 hz2⟩)
      have hwr := bwrite_any (w.heap.size + 1) (w.heap.size + 1) _ (T ++ ⟨#[13, 10]⟩) w2 hb2 (by
        rw [Lib.byteCells_length]
        have e : (T ++ ⟨#[13, 10]⟩ : ByteArray).size = t.length + 2 := by
          rw [ByteArray.size_append, ← HT.out]
          rfl
        have := Hsz.out.1
        simp only [List.length_append, List.length_cons, List.length_nil]
        omega) K2.out.2.2
      rw [show Lib.byteCells (acc ++ (45 :: 45 :: bd ++ [] ++ [13, 10])) ++ Lib.strCells (T ++ ⟨#[13, 10]⟩) = Lib.byteCells (togR (45 :: 45 :: bd) (l.take (i + 1))) by
        have e : Lib.strCells (textQ t ++ ⟨#[13, 10]⟩) = Lib.byteCells (t ++ [13, 10]) := by
          show Lib.byteCells (textQ t ++ ⟨#[13, 10]⟩ : ByteArray).data.toList = _
          rw [ByteArray.data_append, Array.toList_append]
          rfl
        rw [Htk.out, ← HT.out, List.append_nil, e, ← Lib.byteCells_append]] at hwr
      clear hcall hb2 hw2 K
      go_wp2_with fail
      refine hwr.mono ?_
      rintro e w3 ⟨rfl, hb3, hw3⟩
      have hz3 := hw3.size
      have K3 := Lib.hid (show Boxed w3 w.heap.size 9 (.string (textQ bd)) ∧ Lib.IsBuilder 113 5 (w.heap.size + 1) (w.heap.size + 1) (Lib.byteCells (togR (45 :: 45 :: bd) (l.take (i + 1)))) w3 ∧ Below w.heap.size w w3 ∧ w.heap.size + 1 ≤ w3.heap.size from
        ⟨(hw3.block _ (by omega)).trans K2.out.1, .inr hb3, K2.out.2.1.trans (hw3.mono (by omega)), Nat.le_trans K2.out.2.2 hz3⟩)
      clear hwr hb3 hw3 K2
      go_wp2
      go_roundw
      case rel => exact ⟨i + 1, by omega, by go_num, K3⟩
      case measure => simp [intOf]; omega
    · obtain rfl : i = n := by omega
      have hacc := Hs.out i
      rw [List.take_of_length_le (by rw [Hn.out]; exact Nat.le_refl _)] at hk hacc
      have hcall := Hd.out wr _ [45, 45] hk.out.1 hk.out.2.1 hk.out.2.2.2 (by omega) (by simp)
      rw [show textQ [45, 45] = (⟨#[45, 45]⟩ : ByteArray) from rfl, show togR (45 :: 45 :: bd) l ++ (45 :: 45 :: bd ++ [45, 45] ++ [13, 10]) = R by rw [← HR.out, div_tog]; simp] at hcall
      have hbw := Lib.hid hk.out
      clear hk hacc
      go_wp2_with fail
      refine hcall.mono ?_
      rintro e w2 ⟨rfl, hb2, hw2⟩
      have hz2 := hw2.size
      have hstr := Tryz.Builder_String_any (w.heap.size + 1) (w.heap.size + 1) R w2 hb2 (by have := hbw.out.2.2.2; omega)
      have B2 := Lib.hid (hbw.out.2.2.1.trans (hw2.mono (by omega)))
      clear hcall hb2 hw2
      go_wp2_with fail
      refine hstr.mono ?_
      rintro e w3 ⟨rfl, hw3⟩
      have Fin := Lib.hid (B2.out.trans (hw3.mono (by omega)))
      clear hstr hw3
      go_wp2
      go_ret
      exact ⟨rfl, Fin.out⟩
end Go.Proofs.YtjikghndoklajaaGreatDoor
