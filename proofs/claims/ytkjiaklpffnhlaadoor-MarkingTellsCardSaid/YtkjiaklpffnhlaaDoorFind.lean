/-
  lattice's two finders of names, over lists and over tables, and the tables: each answers a name's place in its list, or none, and changes nothing.
-/
import Derived.Test.YtkjiaklpffnhlaaDoorComps
import Derived.Test.YtkjiaklpffnhlaaDoorRight
import Derived.Maps.OwnOps
namespace Go.Proofs.YtkjiaklpffnhlaaDoor
open Go.RowKit Go.Maps

/-- A name's place in a list, the first one, or none. -/
def idxF : List ByteArray → ByteArray → Option Nat
  | [], _ => none
  | z :: zs, x => if z = x then some 0 else (idxF zs x).map (· + 1)
theorem idxF_lt : ∀ (zs : List ByteArray) (x : ByteArray) (k : Nat), idxF zs x = some k → k < zs.length ∧ zs.getD k ByteArray.empty = x
  | [], _, _, h => by simp [idxF] at h
  | z :: zs, x, k, h => by
    unfold idxF at h
    split at h
    · rename_i e
      obtain rfl : 0 = k := by simpa using h
      exact ⟨by simp, by simpa using e⟩
    · obtain ⟨j, hj, rfl⟩ := Option.map_eq_some_iff.1 h
      obtain ⟨h1, h2⟩ := idxF_lt zs x j hj
      exact ⟨by simp; omega, by simpa using h2⟩
theorem idxF_none : ∀ (zs : List ByteArray) (x : ByteArray), idxF zs x = none ↔ x ∉ zs
  | [], _ => by simp [idxF]
  | z :: zs, x => by
    unfold idxF
    split
    · rename_i e; subst e; simp
    · rename_i e
      rw [Option.map_eq_none_iff, idxF_none zs x]
      simp [Ne.symm e]
theorem idxFromS_eq (x : ByteArray) : ∀ (zs : List ByteArray) (i : Nat), Lib.idxFromS zs x i = match idxF zs x with | none => -1 | some k => ((i + k : Nat) : Int)
  | [], i => rfl
  | z :: zs, i => by
    unfold Lib.idxFromS idxF
    split
    · simp
    · rw [idxFromS_eq x zs (i + 1)]
      cases idxF zs x with
      | none => rfl
      | some k =>
        show ((i + 1 + k : Nat) : Int) = ((i + (k + 1) : Nat) : Int)
        omega
theorem idxOfS_eq (zs : List ByteArray) (x : ByteArray) : Lib.idxOfS zs x = match idxF zs x with | none => -1 | some k => (k : Int) := by
  unfold Lib.idxOfS
  rw [idxFromS_eq]
  cases idxF zs x <;> simp

set_option maxRecDepth 100000 in
set_option maxHeartbeats 1000000 in
/-- The finder over a list. -/
theorem inList1_any (b B n c : Nat) (A : Option Addr) (ss : List ByteArray) (x : ByteArray) (w : World) (hc : w.cell? ⟨b, 0, none⟩ = some (.slice A n c)) (h : Strs w B A n c ss) (hn : n ≤ 9223372036854775807) :
    Calls Tryd.prog 56 #[.string x, .pointer (some ⟨b, 0, none⟩)] w fun e w' => e = .returned (.tuple #[.int .i64 (((idxF ss x).getD 0 : Nat) : Int), .bool (idxF ss x).isSome]) ∧ w = w' := by
  have hidx : Calls Tryd.prog 57 #[.slice A n c, .string x] w fun e w' => e = .returned (.int .i64 (Lib.idxOfS ss x)) ∧ w' = w := by
    have hl := h.len
    rcases Nat.eq_zero_or_pos n with rfl | hpos
    · have hs : ss = [] := List.eq_nil_of_length_eq_zero hl
      subst hs
      exact Tryd.slices_Index_string_empty A c x w
    · obtain ⟨b', off, rfl, _, hcell⟩ := h.at_ hpos
      have := Tryd.slices_Index_string b' off n c ss x w (by omega) (by omega) (fun j hj => hcell j (by omega))
      rwa [List.take_of_length_le (by omega)] at this
  rw [idxOfS_eq] at hidx
  cases hf : idxF ss x with
  | none =>
    rw [hf] at hidx
    clear hf
    go_enter Tryd.func56, Tryd.ntmps56
    go_wp2_with fail
    refine hidx.mono ?_
    rintro e w' ⟨rfl, rfl⟩
    go_wp2
    go_ret2
    exact ⟨rfl, rfl⟩
  | some k =>
    rw [hf] at hidx
    have hk : (0 : Int) ≤ k := by omega
    clear hf
    go_enter Tryd.func56, Tryd.ntmps56
    go_wp2_with fail
    refine hidx.mono ?_
    rintro e w' ⟨rfl, rfl⟩
    go_wp2
    go_ret2
    exact ⟨rfl, rfl⟩

set_option maxRecDepth 100000 in
theorem inList_any (A : Option Addr) (n c : Nat) (w : World) : Calls Tryd.prog 41 #[.slice A n c] w fun e w' => e = .returned (.func (.func 56) #[] #[.pointer (some ⟨w.heap.size, 0, none⟩)]) ∧ w' = w.alloc (.cells #[.slice A n c] 22) := by
  have hmf : ∀ (fn : Fn) (first cap : Array Value) (w : World), (Instr.makeFunc fn first cap).run Tryd.prog w = .ok (.func fn first cap) w := fun _ _ _ _ => rfl
  go_enter Tryd.func41, Tryd.ntmps41
  go_wp2
  go_ret
  exact ⟨rfl, rfl⟩
/-- A table of a list's names: each name's place. -/
def tabK (ss : List ByteArray) : Nat → DataW Unit
  | 0 => .map []
  | i + 1 => (tabK ss i).put (keyL (ss.getD i ByteArray.empty)) (.lit (.int .i64 i))
theorem keyL_is (s : ByteArray) : WideAt.IsKeyLit (keyL s) := by unfold keyL; trivial
theorem tabK_map (ss : List ByteArray) : ∀ k, IsMap (tabK ss k)
  | 0 => isMap_empty
  | k + 1 => (tabK_map ss k).put _ _
theorem idxF_snoc_new : ∀ (zs : List ByteArray) (x : ByteArray), x ∉ zs → idxF (zs ++ [x]) x = some zs.length
  | [], x, _ => by simp [idxF]
  | z :: zs, x, h => by
    rw [List.cons_append, idxF, if_neg (fun e => h (by simp [e])), idxF_snoc_new zs x (fun hm => h (List.mem_cons_of_mem _ hm))]
    rfl
theorem idxF_snoc_old : ∀ (zs : List ByteArray) (s x : ByteArray), x ≠ s → idxF (zs ++ [s]) x = idxF zs x
  | [], s, x, h => by simp [idxF, Ne.symm h]
  | z :: zs, s, x, h => by rw [List.cons_append, idxF, idxF, idxF_snoc_old zs s x h]
theorem tab_look (ss : List ByteArray) (hnd : ss.Nodup) (x : ByteArray) : ∀ k, k ≤ ss.length →
    (idxF (ss.take k) x = none ∧ Maps.has (tabK ss k) (keyL x) = false) ∨ (∃ i, idxF (ss.take k) x = some i ∧ Maps.has (tabK ss k) (keyL x) = true ∧ ∀ z, (tabK ss k).atKey (keyL x) z = .lit (.int .i64 i))
  | 0, _ => .inl ⟨by simp [idxF], rfl⟩
  | k + 1, hk => by
    have ht := take_snoc' ss k (by omega)
    have hnot : ss.getD k ByteArray.empty ∉ ss.take k := by
      have h2 : (ss.take (k + 1)).Nodup := hnd.sublist (List.take_sublist _ _)
      rw [ht] at h2
      intro hm
      exact (List.nodup_append.1 h2).2.2 _ hm _ (by simp) rfl
    by_cases e : x = ss.getD k ByteArray.empty
    · refine .inr ⟨k, ?_, ?_, fun z => ?_⟩
      · rw [ht, e, idxF_snoc_new _ _ hnot, List.length_take]
        congr 1; omega
      · rw [e]; exact has_put_same (tabK_map ss k) (keyL_is _) _
      · rw [e]; exact atKey_put_same (tabK_map ss k) (keyL_is _) _ _
    · have hne : keyL x ≠ keyL (ss.getD k ByteArray.empty) := fun h => e (keyL_inj h)
      rw [ht, idxF_snoc_old _ _ _ e]
      rcases tab_look ss hnd x k (by omega) with ⟨h1, h2⟩ | ⟨i, h1, h2, h3⟩
      · exact .inl ⟨h1, (has_put_other hne _).trans h2⟩
      · exact .inr ⟨i, h1, (has_put_other hne _).trans h2, fun z => (atKey_put_other hne _ z).trans (h3 z)⟩

theorem zeroInt (w : World) : (zeroValue 3).run Tryd.prog w = .ok (.int .i64 0) w := by kernel_rfl


theorem run_makeMap_room (n : Nat) (w : World) : (Instr.makeMap 85 (some (.int .i64 n))).run Tryd.prog w = .ok (.map (some w.heap.size)) (w.alloc (.map #[] 0)) := by
  simp [Instr.makeMap, run_underlying Tryd.underlying85]
  rfl

theorem tabK_succ (ss : List ByteArray) (k : Nat) : tabK ss (k + 1) = (tabK ss k).put (keyL (ss.getD k ByteArray.empty)) (.lit (.int .i64 k)) := rfl

set_option maxRecDepth 100000 in
set_option maxHeartbeats 1000000 in
theorem numbers_any (B n c : Nat) (A : Option Addr) (ss : List ByteArray) (w : World) (hB : B ≤ w.heap.size) (h : Strs w B A n c ss) (hn : n ≤ 1000) (hsz : ∀ s ∈ ss, s.size ≤ maxLen) :
    Calls Tryd.prog 65 #[.slice A n c] w fun e w' => e = .returned (.map (some w.heap.size)) ∧ w'.ownsMap Tryd.prog 9 (plainElem (H := Unit) Tryd.prog 3) w.heap.size n (tabK ss ss.length) ∧ Below w.heap.size w w' := by
  have hmm := run_makeMap_room
  have Hl := Lib.hid h.len
  have Hsz := Lib.hid hsz
  clear hsz
  go_enter Tryd.func65, Tryd.ntmps65
  go_wp2
  go_loopw [11] (fun i wr => ∃ k : Nat, k ≤ n ∧ i = .int .i64 k ∧ wr.ownsMap Tryd.prog 9 (plainElem (H := Unit) Tryd.prog 3) w.heap.size k (tabK ss k) ∧ Below w.heap.size w wr)
    (fun i _ => n - (intOf i).toNat)
  case atStart => exact ⟨0, Nat.zero_le _, rfl, World.ownsMap_made _ _ _ _, (Below.refl _ _).alloc (Nat.le_refl _) _⟩
  case round =>
    obtain ⟨k, hk, rfl, hown, hnx⟩ := hrel
    by_cases hlt : k < n
    · obtain ⟨b, off, rfl, hb, hc⟩ := (h.below (hnx.mono hB)).at_ hlt
      have hcx := hc k hlt
      have hxs : (ss.getD k ByteArray.empty).size ≤ maxLen := by
        have hkl : k < ss.length := by rw [Hl.out]; exact hlt
        rw [List.getD, List.getElem?_eq_getElem hkl]
        exact Hsz.out _ (List.getElem_mem hkl)
      have hput := tabK_succ ss k
      obtain ⟨x, hx⟩ : ∃ x, ss.getD k ByteArray.empty = x := ⟨_, rfl⟩
      rw [hx] at hcx hxs hput
      have hkey : keyOf Tryd.prog 9 (.string x) = some (keyL x) := WideMaps.keyOf_string_mk Tryd.underlying9 hxs
      have hwf : (Lit.int .i64 (k : Int)).wf = true := by
        have : (k : Int) ≤ 1000 := by omega
        simp [Lit.wf, IntKind.min, IntKind.max, IntKind.bits, IntKind.signed]; omega
      have Hput := Lib.hid hput
      have Hwf := Lib.hid hwf
      clear hput hx hc hwf
      go_wp2_with (at_mapUpdate; refine wpList_mapUpdate_own _ rfl _ _ _ 85 rfl 9 3 lawStr Tryd.underlying85 (plainElem (H := Unit) Tryd.prog 3) w.heap.size k _ rfl hown (by unfold maxLen; omega) _ _ _ rfl rfl hkey _ [] (plainElem_int Tryd.underlying3 Hwf.out) ?_; intro w2 hown2 hgrow2)
      go_roundw
      case rel => exact ⟨k + 1, by omega, by go_num, by rw [Hput.out]; exact hown2, hnx.grown hgrow2 hnx.size (fun j hj => by cases hj; exact Nat.le_refl _)⟩
      case measure => simp [intOf]; omega
    · have hkn : k = n := by omega
      have hfin : wr.ownsMap Tryd.prog 9 (plainElem (H := Unit) Tryd.prog 3) w.heap.size n (tabK ss ss.length) := by rw [Hl.out]; rw [hkn] at hown; exact hown
      clear hown hkn
      go_wp2
      go_ret
      exact ⟨rfl, hfin, hnx⟩
end Go.Proofs.YtkjiaklpffnhlaaDoor
