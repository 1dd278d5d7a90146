/-
  Texts of this proof, put together: ShelfB, Lay8, St6, St7.
-/
import Derived.Shelf.SlIter.Nil
import Derived.Shelf.SortM.Plain
import Derived.Shelf.SortM.SortNone
import Derived.Shelf.SlMaps.Clone
import Derived.Ground.GgzProg
import Derived.Ground.SlgmProg
import Derived.Ground.SlmcProg
import Derived.Test.YtgpdplffljidbaaGreatDoorProg
import Derived.Test.YtgpdplffljidbaaGreatDoorZ11
import Derived.Test.YtgpdplffljidbaaGreatDoorZ19
import Derived.Sort.KeysCollected
import Derived.Sort.Walk0
namespace Go.Proofs
open Go.Shelf
def Tryz.keys8_ren : Go.Shelf.Ren := ⟨fun | 7 => 90 | 10 => 115 | n => n, fun | 23 => 93 | 26 => 9 | 3 => 125 | 28 => 176 | 0 => 0 | 27 => 175 | 33 => 203 | 4 => 4 | n => n, fun | n => n⟩
theorem Tryz.keys8 : Go.Proofs.SlLaysZ.n7 Tryz.prog Tryz.keys8_ren := {
  mixed := by kernel_rfl
  f7 := ⟨Tryz.f90.name, by decide, Tryz.func90.trans (congrArg some (by kernel_rfl))⟩
  f10 := ⟨Tryz.f115.name, by decide, Tryz.func115.trans (congrArg some (by kernel_rfl))⟩
  t0 := Tryz.underlying0
  a0 := Tryz.isAgg0
  z0 := Tryz.sizeOf0
  v0 := Tryz.zeroValue0
  t4 := Tryz.underlying4
  a4 := Tryz.isAgg4
  z4 := Tryz.sizeOf4
  v4 := Tryz.zeroValue4
  t23 := Tryz.underlying93
  a23 := Tryz.isAgg93
  z23 := Tryz.sizeOf93
  v23 := Tryz.zeroValue93
  t26 := Tryz.underlying9
  a26 := Tryz.isAgg9
  z26 := Tryz.sizeOf9
  v26 := Tryz.zeroValue9
  t27 := Tryz.underlying175
  a27 := Tryz.isAgg175
  z27 := Tryz.sizeOf175
  v27 := Tryz.zeroValue175
  t28 := Tryz.underlying176
  a28 := Tryz.isAgg176
  z28 := Tryz.sizeOf176
  v28 := Tryz.zeroValue176
  t33 := Tryz.underlying203
  a33 := Tryz.isAgg203
  z33 := Tryz.sizeOf203
  v33 := Tryz.zeroValue203 }
def Tryz.sorted8_ren : Go.Shelf.Ren := ⟨fun | 6 => 89 | 8 => 114 | 9 => 68 | 11 => 139 | 13 => 92 | 12 => 91 | 23 => 125 | 24 => 126 | 14 => 116 | 15 => 117 | 16 => 118 | 17 => 119 | 18 => 120 | 19 => 121 | 20 => 122 | 21 => 123 | 22 => 124 | 25 => 140 | 26 => 141 | 27 => 142 | 28 => 143 | 29 => 144 | 30 => 145 | 31 => 160 | n => n, fun | 26 => 9 | 28 => 176 | 24 => 113 | 0 => 0 | 3 => 3 | 37 => 160 | 48 => 90 | 50 => 147 | 4 => 4 | 40 => 206 | 39 => 205 | 45 => 210 | 5 => 5 | 9 => 9 | 51 => 228 | 55 => 232 | 57 => 245 | 58 => 246 | 33 => 203 | n => n, fun | n => n⟩
theorem Tryz.sorted8 : Go.Proofs.SlLaysZ.n6 Tryz.prog Tryz.sorted8_ren := {
  mixed := by kernel_rfl
  f6 := ⟨Tryz.f89.name, by decide, Tryz.func89.trans (congrArg some (by kernel_rfl))⟩
  f8 := ⟨Tryz.f114.name, by decide, Tryz.func114.trans (congrArg some (by kernel_rfl))⟩
  f11 := ⟨Tryz.f139.name, by decide, Tryz.func139.trans (congrArg some (by kernel_rfl))⟩
  t0 := Tryz.underlying0
  a0 := Tryz.isAgg0
  z0 := Tryz.sizeOf0
  v0 := Tryz.zeroValue0
  t24 := Tryz.underlying113
  a24 := Tryz.isAgg113
  z24 := Tryz.sizeOf113
  v24 := Tryz.zeroValue113
  t26 := Tryz.underlying9
  a26 := Tryz.isAgg9
  z26 := Tryz.sizeOf9
  v26 := Tryz.zeroValue9
  t28 := Tryz.underlying176
  a28 := Tryz.isAgg176
  z28 := Tryz.sizeOf176
  v28 := Tryz.zeroValue176
  i26 := by kernel_rfl }
def Tryz.sort8_ren : Go.Shelf.Ren := ⟨fun | 6 => 68 | 8 => 92 | 9 => 91 | 19 => 125 | 20 => 126 | 21 => 116 | 22 => 117 | 23 => 118 | 24 => 119 | 25 => 120 | 26 => 121 | 27 => 122 | 28 => 123 | 29 => 124 | 36 => 140 | 31 => 141 | 32 => 142 | 37 => 143 | 38 => 144 | 39 => 145 | 41 => 160 | n => n, fun | 27 => 113 | 29 => 9 | 3 => 3 | 32 => 160 | 26 => 113 | 0 => 0 | 44 => 90 | 46 => 147 | 4 => 4 | 36 => 206 | 35 => 205 | 41 => 210 | 5 => 5 | 9 => 9 | 53 => 228 | 57 => 232 | 63 => 245 | 64 => 246 | n => n, fun | n => n⟩
theorem Tryz.sort8 : Go.Proofs.SlLaysM.n6 Tryz.prog Tryz.sort8_ren := {
  mixed := by kernel_rfl
  f6 := ⟨Tryz.f68.name, by decide, Tryz.func68.trans (congrArg some (by kernel_rfl))⟩
  f8 := Tryz.func92.trans (congrArg some (by kernel_rfl))
  f9 := ⟨Tryz.f91.name, by decide, Tryz.func91.trans (congrArg some (by kernel_rfl))⟩
  f19 := Tryz.func125.trans (congrArg some (by kernel_rfl))
  f20 := Tryz.func126.trans (congrArg some (by kernel_rfl))
  f21 := ⟨Tryz.f116.name, by decide, Tryz.func116.trans (congrArg some (by kernel_rfl))⟩
  f22 := ⟨Tryz.f117.name, by decide, Tryz.func117.trans (congrArg some (by kernel_rfl))⟩
  f23 := ⟨Tryz.f118.name, by decide, Tryz.func118.trans (congrArg some (by kernel_rfl))⟩
  f24 := ⟨Tryz.f119.name, by decide, Tryz.func119.trans (congrArg some (by kernel_rfl))⟩
  f25 := ⟨Tryz.f120.name, by decide, Tryz.func120.trans (congrArg some (by kernel_rfl))⟩
  f26 := ⟨Tryz.f121.name, by decide, Tryz.func121.trans (congrArg some (by kernel_rfl))⟩
  f27 := ⟨Tryz.f122.name, by decide, Tryz.func122.trans (congrArg some (by kernel_rfl))⟩
  f28 := ⟨Tryz.f123.name, by decide, Tryz.func123.trans (congrArg some (by kernel_rfl))⟩
  f29 := ⟨Tryz.f124.name, by decide, Tryz.func124.trans (congrArg some (by kernel_rfl))⟩
  f31 := Tryz.func141.trans (congrArg some (by kernel_rfl))
  f32 := Tryz.func142.trans (congrArg some (by kernel_rfl))
  f36 := ⟨Tryz.f140.name, by decide, Tryz.func140.trans (congrArg some (by kernel_rfl))⟩
  f37 := ⟨Tryz.f143.name, by decide, Tryz.func143.trans (congrArg some (by kernel_rfl))⟩
  f38 := ⟨Tryz.f144.name, by decide, Tryz.func144.trans (congrArg some (by kernel_rfl))⟩
  f39 := ⟨Tryz.f145.name, by decide, Tryz.func145.trans (congrArg some (by kernel_rfl))⟩
  f41 := ⟨Tryz.f160.name, by decide, Tryz.func160.trans (congrArg some (by kernel_rfl))⟩
  t0 := Tryz.underlying0
  a0 := Tryz.isAgg0
  z0 := Tryz.sizeOf0
  v0 := Tryz.zeroValue0
  t3 := Tryz.underlying3
  a3 := Tryz.isAgg3
  z3 := Tryz.sizeOf3
  v3 := Tryz.zeroValue3
  t4 := Tryz.underlying4
  a4 := Tryz.isAgg4
  z4 := Tryz.sizeOf4
  v4 := Tryz.zeroValue4
  t5 := Tryz.underlying5
  a5 := Tryz.isAgg5
  z5 := Tryz.sizeOf5
  v5 := Tryz.zeroValue5
  t9 := Tryz.underlying9
  a9 := Tryz.isAgg9
  z9 := Tryz.sizeOf9
  v9 := Tryz.zeroValue9
  t26 := Tryz.underlying113
  a26 := Tryz.isAgg113
  z26 := Tryz.sizeOf113
  v26 := Tryz.zeroValue113
  t27 := Tryz.underlying113
  a27 := Tryz.isAgg113
  z27 := Tryz.sizeOf113
  v27 := Tryz.zeroValue113
  t29 := Tryz.underlying9
  a29 := Tryz.isAgg9
  z29 := Tryz.sizeOf9
  v29 := Tryz.zeroValue9
  t32 := Tryz.underlying160
  a32 := Tryz.isAgg160
  z32 := Tryz.sizeOf160
  v32 := Tryz.zeroValue160
  t35 := Tryz.underlying205
  a35 := Tryz.isAgg205
  z35 := Tryz.sizeOf205
  v35 := Tryz.zeroValue205
  t36 := Tryz.underlying206
  a36 := Tryz.isAgg206
  z36 := Tryz.sizeOf206
  v36 := Tryz.zeroValue206
  t41 := Tryz.underlying210
  a41 := Tryz.isAgg210
  z41 := Tryz.sizeOf210
  v41 := Tryz.zeroValue210
  t44 := Tryz.underlying90
  a44 := Tryz.isAgg90
  z44 := Tryz.sizeOf90
  v44 := Tryz.zeroValue90
  t46 := Tryz.underlying147
  a46 := Tryz.isAgg147
  z46 := Tryz.sizeOf147
  v46 := Tryz.zeroValue147
  t53 := Tryz.underlying228
  a53 := Tryz.isAgg228
  z53 := Tryz.sizeOf228
  v53 := Tryz.zeroValue228
  t57 := Tryz.underlying232
  a57 := Tryz.isAgg232
  z57 := Tryz.sizeOf232
  v57 := Tryz.zeroValue232
  t63 := Tryz.underlying245
  a63 := Tryz.isAgg245
  z63 := Tryz.sizeOf245
  v63 := Tryz.zeroValue245
  t64 := Tryz.underlying246
  a64 := Tryz.isAgg246
  z64 := Tryz.sizeOf246
  v64 := Tryz.zeroValue246 }
def Tryz.clone8_ren : Go.Shelf.Ren := ⟨fun | 5 => 66 | 7 => 88 | n => n, fun | 23 => 93 | 25 => 9 | 3 => 125 | 4 => 4 | 20 => 20 | n => n, fun | n => n⟩
theorem Tryz.clone8 : Go.Proofs.SlLaysW.n5 Tryz.prog Tryz.clone8_ren := {
  mixed := by kernel_rfl
  f5 := ⟨Tryz.f66.name, by decide, Tryz.func66.trans (congrArg some (by kernel_rfl))⟩
  f7 := Tryz.func88.trans (congrArg some (by kernel_rfl))
  t4 := Tryz.underlying4
  a4 := Tryz.isAgg4
  z4 := Tryz.sizeOf4
  v4 := Tryz.zeroValue4
  t20 := Tryz.underlying20
  a20 := Tryz.isAgg20
  z20 := Tryz.sizeOf20
  v20 := Tryz.zeroValue20
  t23 := Tryz.underlying93
  a23 := Tryz.isAgg93
  z23 := Tryz.sizeOf93
  v23 := Tryz.zeroValue93 }
end Go.Proofs
namespace Go.Proofs
open Go.RowKit Go.Maps Go.Sort Go.Shelf


theorem Tryz.sorts8 (m : Nat) : AnyZ.SortsIn Tryz.prog Tryz.sorted8_ren Fence.wide m :=
  ⟨fun blk off cap ss W hH hblk hsz => callsIn_wide.2 (AnyM.slices_Sort_string Tryz.sort8 blk off cap ss W hH hblk hsz),
   fun p cap W => callsIn_wide.2 (AnyM.slices_Sort_string_none Tryz.sort8 p cap W)⟩
theorem Tryz.mkeys8 (mb : Option Nat) (W : World) : CallsIn Fence.wide 5 Tryz.prog 90 #[.map mb] W fun e w' => e = .returned (.func (.func 115) #[] #[.pointer (some ⟨W.heap.size, 0, none⟩)]) ∧ w' = W.alloc (.cells #[.map mb] 93) :=
  AnyZ.keys_in Tryz.keys8 Fence.wide 5 trivial rfl mb W
set_option maxHeartbeats 1000000 in
theorem Tryz.msorted8 {H : Type} (b nn : Nat) (D0 : DataW H) (R : Value → Option (DataW H × List MemPlace)) (w : World) (hown : w.ownsMap Tryz.prog 9 R b nn D0) (hmax : Maps.size D0 ≤ maxLen) (hbytes : Maps.size D0 * 16 ≤ 140737488355328) :
    CallsIn Fence.wide 5 Tryz.prog 89 #[.func (.func 115) #[] #[.pointer (some ⟨w.heap.size, 0, none⟩)]] (w.alloc (.cells #[.map (some b)] 93)) fun e w' => ∃ (v : Value) (ss : List (List UInt8)), e = .returned v ∧ ss.Perm (strKeys D0) ∧
      w'.ownsRow (w.alloc (.cells #[.map (some b)] 93)).heap.size 9 1 v ss.length ((ss.mergeSort (fun x y => decide (x ≤ y))).map encStr) ∧ (v = .slice none 0 0 ↔ ss = []) ∧ Below (w.alloc (.cells #[.map (some b)] 93)).heap.size (w.alloc (.cells #[.map (some b)] 93)) w' := by
  have hbl := hown.lt
  have hseq : SeqGives Fence.wide 2 Tryz.prog 115 #[.pointer (some ⟨w.heap.size, 0, none⟩)] encStr (fun ss => ss.Perm (strKeys D0)) (Maps.size D0) (w.alloc (.cells #[.map (some b)] 93)) :=
    AnyZ.keys_gives (ρ := Tryz.keys8_ren) { Tryz.keys8 with } Fence.wide _ trivial rfl (by omega) w.heap.size b nn D0 _ (by simp) (by simp) (by
      obtain ⟨es, clock, hb, Ft, hs, hD⟩ := hown
      exact ⟨es, clock, (Below.heap_alloc _ _ b hbl).trans hb, Ft, hs, hD⟩)
  exact AnyZ.sorted_in Tryz.sorted8 Fence.wide 5 trivial trivial trivial trivial rfl (by omega) (Tryz.sorts8 _) (enters_of Tryz.func68 (by kernel_rfl) rfl) 115 #[.pointer (some ⟨w.heap.size, 0, none⟩)] trivial (enters_of Tryz.func115 (by kernel_rfl) rfl) _ _ hmax hbytes _ hseq
theorem Tryz.mclone8 {H : Type} (b n : Nat) (D : DataW H) (R : Value → Option (DataW H × List MemPlace)) (w : World) (hown : w.ownsMap Tryz.prog 9 R b n D) :
    Calls Tryz.prog 66 #[.map (some b)] w fun e w' => e = .returned (.map (some w.heap.size)) ∧ w'.ownsMap Tryz.prog 9 R w.heap.size n D ∧ w'.ownsMap Tryz.prog 9 R b n D ∧ Below w.heap.size w w' :=
  AnyW.maps_Clone_owns Tryz.clone8 9 R b n D w hown
end Go.Proofs
namespace Go.Proofs.YtgpdplffljidbaaGreatDoor
open Go.RowKit Go.Maps

theorem zeroWVal (w : World) : (zeroValue 125).run Tryz.prog w = .ok (.agg #[.string ⟨#[]⟩]) w := by kernel_rfl
theorem fieldWVal (s : ByteArray) (w : World) : (Instr.field 125 (.agg #[.string s]) 0).run Tryz.prog w = .ok (.string s) w := by kernel_rfl
theorem MapP.look {w : World} {m n : Nat} {ps : List PairP} (h : MapP w m n ps) (k : KeyP) (kt : ByteArray) (hk : textQ k = kt) (hks : kt.size ≤ 1000000) :
    (Instr.lookup 93 (.map (some m)) (.string kt) false).run Tryz.prog w = .ok (.agg #[.string (textQ ((findP ps k).getD []))]) w ∧
    (Instr.lookup 93 (.map (some m)) (.string kt) true).run Tryz.prog w = .ok (.tuple #[.agg #[.string (textQ ((findP ps k).getD []))], .bool (findP ps k).isSome]) w := by
  obtain ⟨D, ⟨es, clock, hb, F, _, rfl⟩, ht⟩ := h.data
  have hkey := key_of kt hks
  rw [← hk] at hkey ⊢
  have hkey : keyOf Tryz.prog 9 (.string (textQ k)) = some (.string k) := hkey
  have hget : ∀ c : Bool, ((Instr.lookup 93 (.map (some m)) (.string (textQ k)) c).run Tryz.prog w = .ok (if c then .tuple #[.agg #[.string (textQ ((findP ps k).getD []))], .bool (findP ps k).isSome] else .agg #[.string (textQ ((findP ps k).getD []))]) w) := by
    intro c
    rcases Maps.fit_look c keyedStr Tryz.underlying93 (zeroWVal w) hb F hkey with ⟨hrun, _, hat⟩ | ⟨e0, y, _, _, hrun, hRv, hat, _⟩
    · have hno := Maps.has_false_of_atKey hat
      have hf : findP ps k = none := by
        cases hf : findP ps k with
        | none => rfl
        | some v =>
          have := ((ht k).2 v hf).1
          rw [hno] at this
          cases this
      rw [hf]
      exact hrun
    · have hyes := Maps.has_true_of_atKey hat
      cases hf : findP ps k with
      | none =>
        have := (ht k).1 hf
        rw [hyes] at this
        cases this
      | some v =>
        have hd := ((ht k).2 v hf).2 (.lit (.string []))
        rw [hat] at hd
        obtain ⟨s, h1, h2⟩ := valR_inv hRv
        rw [h2] at hd
        have hs : s.data.toList = v := Lit.string.inj (DataW.lit.inj hd)
        have hsv : s = textQ v := by rw [← hs]; rfl
        rw [hrun, h1, hsv]
        simp only [Option.getD_some, Option.isSome_some]
  exact ⟨hget false, hget true⟩
theorem MapP.len {w : World} {m n : Nat} {ps : List PairP} (h : MapP w m n ps) : ∃ z : Nat, z ≤ n ∧ ∀ ty, (Builtin.len_ #[93] ty #[.map (some m)]).run Tryz.prog w = .ok (.int .i64 (z : Int)) w := by
  obtain ⟨D, hown, ht⟩ := h.data
  exact ⟨_, hown.size_le, fun ty => hown.len Tryz.underlying93 ty⟩
theorem find_mem {ps : List PairP} {k : KeyP} : (∃ v, findP ps k = some v) ↔ k ∈ ps.map (·.1) := by
  unfold findP
  rw [List.mem_map]
  constructor
  · rintro ⟨v, h⟩
    obtain ⟨p, hp, _⟩ := Option.map_eq_some_iff.1 h
    exact ⟨p, List.mem_of_find?_eq_some hp, by simpa using List.find?_some hp⟩
  · rintro ⟨p, hp, rfl⟩
    cases hf : ps.find? (fun q => q.1 == p.1) with
    | none =>
      have := List.find?_eq_none.1 hf p hp
      simp at this
    | some q => exact ⟨q.2, rfl⟩
theorem sorted_keys {ps : List PairP} (h : SortedP ps) : (ps.map (·.1)).Pairwise (fun a b => leB a b = true) ∧ (ps.map (·.1)).Nodup := by
  constructor
  · refine List.pairwise_map.2 (h.imp fun {a b} hab => ?_)
    have := hab
    rw [show lessP a.1 b.1 = decide (a.1 < b.1) from bytesLess_eq a.1 b.1, decide_eq_true_eq] at this
    simp only [leB, decide_eq_true_eq]
    exact List.le_of_lt this
  · refine List.pairwise_map.2 (h.imp fun {a b} hab e => ?_)
    rw [e, less_irrefl] at hab
    cases hab
theorem MapP.keys {w : World} {m n : Nat} {ps : List PairP} (h : MapP w m n ps) (hn : n ≤ 1000000) :
    Calls Tryz.prog 89 #[.func (.func 115) #[] #[.pointer (some ⟨w.heap.size, 0, none⟩)]] (w.alloc (.cells #[.map (some m)] 93)) fun e w' => ∃ v, e = .returned v ∧ OwnT9 (w.heap.size + 1) w' v (ps.map (·.1)) ∧ Below w.heap.size w w' := by
  obtain ⟨D, hown, ht⟩ := h.data
  have hsz := hown.size_le
  have hc := (callsIn_wide (n := 5)).1 (Tryz.msorted8 m n D valR w hown (by unfold maxLen; omega) (by omega))
  refine hc.mono ?_
  rintro e w' ⟨v, ss, rfl, hperm, hrow, _, hb⟩
  obtain ⟨es, rfl, hkeys⟩ := hown.keysOf
  obtain ⟨hsorted, hnodup⟩ := sorted_keys h.sorted
  obtain ⟨es2, he2, hap⟩ := hown.tidy keyedStr
  cases he2
  have hp2 : (ps.map (·.1)).Perm (strKeys (.map es)) := by
    refine perm_strKeys hap (fun p hp => ?_) hnodup fun x => ?_
    · obtain ⟨v0, hv0⟩ := hkeys p hp
      obtain ⟨x, _, hx, _⟩ := Maps.keyOf_str Tryz.underlying9 hv0
      exact ⟨x, hx⟩
    · rw [← find_mem]
      constructor
      · rintro ⟨v0, hv0⟩
        exact ((ht x).2 v0 hv0).1
      · intro hx
        cases hf : findP ps x with
        | none =>
          have := (ht x).1 hf
          rw [hx] at this
          cases this
        | some v0 => exact ⟨v0, rfl⟩
  have hms : ss.mergeSort leB = ps.map (·.1) := by
    rw [mergeSort_of_perm (hperm.trans hp2.symm)]
    exact List.mergeSort_of_pairwise hsorted
  have hlen : ss.length = (ps.map (·.1)).length := (hperm.trans hp2.symm).length_eq
  refine ⟨v, rfl, ?_, ?_⟩
  · rw [show (ss.mergeSort fun x y => decide (x ≤ y)) = ps.map (·.1) from hms, hlen, World.size_alloc] at hrow
    exact hrow
  · exact ((Below.refl _ w).alloc (Nat.le_refl _) _).trans (hb.mono (by simp))
theorem find_at : ∀ {ps : List PairP}, SortedP ps → ∀ p ∈ ps, findP ps p.1 = some p.2
  | [], _, p, hp => by cases hp
  | q :: l, h, p, hp => by
    obtain ⟨h1, h2⟩ := sorted_cons.1 h
    rw [find_cons]
    rcases List.mem_cons.1 hp with rfl | hp
    · rw [if_pos rfl]
    · rw [if_neg fun e => ?_]
      · exact find_at h2 p hp
      · have := h1 p hp
        rw [e, less_irrefl] at this
        cases this
theorem slice_of {w : World} {B e k n : Nat} {v : Value} {xs : List Value} (h : w.ownsRow B e k v n xs) : ∃ ao cap, v = .slice ao n cap := by
  rcases h.2 with ⟨rfl, rfl⟩ | ⟨g, cap, cur, rfl, _⟩
  · exact ⟨_, _, rfl⟩
  · exact ⟨_, _, rfl⟩
set_option maxRecDepth 100000 in
set_option maxHeartbeats 4000000 in
theorem all_any (m n : Nat) (ps : List PairP) (w : World) (h : MapP w m n ps) (hn : n ≤ 1000000) (hps : ps.length ≤ 1000000) (hf : FitP ps) :
    Calls Tryz.prog 67 #[.map (some m)] w fun e w' => ∃ v, e = .returned v ∧ OwnC9 w.heap.size w' v (wholeP ps) ∧ Below w.heap.size w w' := by
  obtain ⟨i0, hi0, hz00, hz10, hz20⟩ := info_parts infoWCh
  obtain ⟨z, hz, hlen⟩ := h.len
  obtain ⟨w1, hmk, hown1, hgrow1⟩ := run_make_own (P := Tryz.prog) w w.heap.size 35 50 i0 (.agg #[.string ⟨#[]⟩, .string ⟨#[]⟩, .bool false]) 3 Tryz.underlying35 hi0 hz00 hz10 .i64 .i64 z (by rw [hz20]; omega) (by unfold maxLen; omega) (Nat.le_refl _)
  have hb1 : Below w.heap.size w w1 := (Below.refl _ w).grown hgrow1 (Nat.le_refl _) fun k hk => by cases hk
  have hg1 : w.heap.size < w1.heap.size := (hown1.lt _ rfl).2
  have hm1 := h.below hb1
  have hkeys := hm1.keys hn
  have hmk1 := (callsIn_wide (n := 5)).1 (Tryz.mkeys8 (some m) w1)
  have H := Lib.hid (And.intro h hf)
  have H1 := Lib.hid (And.intro hown1 (And.intro hb1 hm1))
  clear h hf hgrow1 hown1 hb1 hm1
  go_enter Tryz.func67, Tryz.ntmps67
  --@a
  go_wp2_with (first
    | (go_at_call 90; with_reducible refine hmk1.mono ?_; rintro e w2 ⟨rfl, rfl⟩)
    | (go_at_call 89; with_reducible refine hkeys.mono ?_; rintro e w3 ⟨v3, rfl, hown3, hb3⟩; obtain ⟨ao3, cap3, rfl⟩ := slice_of hown3))
  obtain ⟨hown1, hb1, hm1⟩ := H1.out
  have hlen3 : (ps.map (·.1)).length = ps.length := List.length_map ..
  rw [hlen3] at hown3
  have hz3 := hb3.size
  have hc1 : ∀ b, Value.ownBlock (.slice (some ⟨w.heap.size, 0, none⟩) 0 z) = some b → b < w1.heap.size := fun b e => (hown1.lt b e).2
  have hown1' : OwnC9 w.heap.size w3 (.slice (some ⟨w.heap.size, 0, none⟩) 0 z) (wholeP (ps.take 0)) := ownsRow_below4 hown1 hb3
  have hm3 := hm1.below hb3
  have hb13 := hb1.trans (hb3.mono hb1.size)
  have hkc : Hid (∀ i (hi : i < ps.length), ∃ g off, ao3 = some ⟨g, off, none⟩ ∧ w1.heap.size < g ∧ g < w3.heap.size ∧ w3.cell? ⟨g, off + i, none⟩ = some (.string (textQ ps[i].1))) := Lib.hid fun i hi => by
    obtain ⟨h1, h2⟩ := hown3
    rcases h2 with ⟨e, e2⟩ | ⟨g, cap, cur, e, hb, hg, q1, q3, q4, q5⟩
    · omega
    · injection e with e e2 e3
      refine ⟨g, 0, e, hb, (Array.getElem?_eq_some_iff.1 hg).1, ?_⟩
      have hat : ((ps.map (·.1)).map fun s => Value.string (textQ s))[i]? = some (.string (textQ ps[i].1)) := by
        rw [List.getElem?_map, List.getElem?_map, List.getElem?_eq_getElem hi]
        rfl
      rw [← q5, List.getElem?_take] at hat
      split at hat
      · rw [Array.getElem?_toList] at hat
        rw [Lib.cell_of_heap hg, Nat.zero_add]
        exact hat
      · cases hat
  have H3 := Lib.hid (And.intro hm3 hb13)
  clear hmk hkeys hmk1 hlen hown1 hb1 hm1 hlen3 H1 hown3 hb3 hc1
  go_wp2
  --@b
  obtain ⟨N, hN⟩ : ∃ N, ps.length = N := ⟨_, rfl⟩
  have HN := Lib.hid hN
  rw [hN] at hps ⊢
  clear hN
  go_loopw [3, 13] (fun v iv wr => ∃ i : Nat, i ≤ N ∧ iv = .int .i64 i ∧ OwnC9 w.heap.size wr v (wholeP (ps.take i)) ∧ Turned (fun b => b = w.heap.size) w3 wr ∧ (∀ b, v.ownBlock = some b → b = w.heap.size ∨ w3.heap.size ≤ b)) (fun _ iv _ => N - (intOf iv).toNat)
  case atStart => exact ⟨0, by omega, rfl, hown1', Turned.refl _ _, fun b e => .inl (by cases e; rfl)⟩
  case round =>
    obtain ⟨i, hi, rfl, hown, ht, hfr⟩ := hrel
    have hz := ht.size
    obtain ⟨hm3, hb13⟩ := H3.out
    have hbw : Below w.heap.size w wr := hb13.trans (ht.below (by omega) fun b e => by omega)
    by_cases hlt : i < N
    · obtain ⟨g, off, rfl, hg1', hg3, hk⟩ := hkc.out i (by rw [HN.out]; exact hlt)
      have hil : i < ps.length := by rw [HN.out]; exact hlt
      have htk : wholeP (ps.take (i + 1)) = wholeP (ps.take i) ++ [⟨ps[i].1, ps[i].2, false⟩] := by
        rw [List.take_succ_eq_append_getElem hil]
        unfold wholeP
        rw [List.map_append, List.map_cons, List.map_nil]
      have hfind := find_at H.out.1.sorted ps[i] (List.getElem_mem hil)
      have hfit := (H.out.2 ps[i] (List.getElem_mem hil)).1
      obtain ⟨p, hp⟩ : ∃ p, ps[i] = p := ⟨_, rfl⟩
      rw [hp] at hk htk hfind hfit
      obtain ⟨KT, hKT⟩ : ∃ KT, textQ p.1 = KT := ⟨_, rfl⟩
      obtain ⟨VT, hVT⟩ : ∃ VT, textQ p.2 = VT := ⟨_, rfl⟩
      have g3 : KT.size ≤ 65535 := by rw [← hKT]; exact hfit
      have hlook := ((H.out.1.below hbw).look p.1 KT hKT (by omega)).1
      rw [hfind, Option.getD_some, hVT] at hlook
      rw [hKT] at hk
      have hpk : wr.cell? ⟨g, off + i, none⟩ = some (.string KT) := (World.cell?_of_block (ht.block g hg3 (by omega))).trans hk
      have hll : (wholeP (ps.take i)).length ≤ 100000000 := by
        unfold wholeP
        rw [List.length_map, List.length_take]
        omega
      have happ := hown.alloc (.cells #[.string KT, .string VT, .bool false] 50)
      have hfld := fieldWVal VT wr
      have Htk := Lib.hid htk
      have HKV := Lib.hid (And.intro hKT (And.intro hVT (And.intro ht (And.intro hfr hbw))))
      clear hp hfind hfit htk hk hKT hVT hil ht hfr hm3 hb13 hown1' hbw hown
      go_wp2_with (at_builtin; refine wpList_append_c rfl _ _ rfl w.heap.size u3 (wholeP (ps.take i)) ⟨p.1, p.2, false⟩ rfl happ (by simp; omega) hll wr.heap.size 1 rfl ?n1 ?n2 ?n3 ?_)
      case n1 => rw [HKV.out.1]
      case n2 => rw [HKV.out.2.1]
      --@c
      intro v2 w2 hown2 ht2 hf2
      obtain ⟨hKT, hVT, ht, hfr, hbw⟩ := HKV.out
      have hal : Turned (fun _ => False) wr (wr.alloc (.cells #[.string KT, .string VT, .bool false] 50)) := Turned.of_below ((Below.refl _ wr).alloc (Nat.le_refl _) _) (Nat.le_refl _)
      have ht3 : Turned (fun b => b = w.heap.size) w3 w2 := (ht.trans hal fun _ h => h.elim).trans ht2 fun b e => hfr b e
      have hf3 : ∀ b, v2.ownBlock = some b → b = w.heap.size ∨ w3.heap.size ≤ b := fun b e => (hf2 b e).elim (hfr b) fun h => .inr (by simp at h; omega)
      rw [← Htk.out] at hown2
      clear hal ht hfr hbw hKT hVT hlook hpk happ ht2 hf2
      go_wp2
      go_roundw
      case rel => exact ⟨i + 1, by omega, by go_num, hown2, ht3, hf3⟩
      case measure => simp [intOf]; omega
    · obtain rfl : N = i := by omega
      rw [List.take_of_length_le (by rw [HN.out]; exact Nat.le_refl _)] at hown
      go_wp2
      --@d
      go_ret
      exact ⟨_, rfl, hown, hbw⟩
end Go.Proofs.YtgpdplffljidbaaGreatDoor
namespace Go.Proofs.YtgpdplffljidbaaGreatDoor
open Go.RowKit Go.Maps

structure StoreAt (w : World) (B N Nd g m n : Nat) (cs : Array Value) (st : StP) (d : Dk) (ps : List PairP) : Prop where
  held : Held9 w N cs 110
  ok : CellsOk cs Nd m st
  disk : DiskAt w B Nd g d
  map : MapP w m n ps
  apart : ∀ b, mineD Nd g b → b ≠ N
theorem StoreAt.mN {w : World} {B N Nd g m n : Nat} {cs : Array Value} {st : StP} {d : Dk} {ps : List PairP} (h : StoreAt w B N Nd g m n cs st d ps) : m ≠ N := by
  rintro rfl
  obtain ⟨es, clock, hb⟩ := h.map.block
  have := h.held
  unfold Held9 at this
  rw [hb] at this
  cases this
theorem StoreAt.mD {w : World} {B N Nd g m n : Nat} {cs : Array Value} {st : StP} {d : Dk} {ps : List PairP} (h : StoreAt w B N Nd g m n cs st d ps) : ¬ mineD Nd g m := fun hm => by
  obtain ⟨es, clock, hb⟩ := h.map.block
  obtain ⟨c, T, fz, hc⟩ := h.disk.cellsOf m hm
  rw [hb] at hc
  cases hc
def mineS (N Nd g m : Nat) (b : Nat) : Prop := b = N ∨ mineD Nd g b ∨ b = m
theorem ChsAt.keep {S : Nat → Prop} {w w' : World} {B : Nat} {v : Value} {l : List Ch} (h : ChsAt w B v l) (t : Turned S w w') (hB : B ≤ w.heap.size) (hs : ∀ b, v.ownBlock = some b → ¬ S b) : ChsAt w' B v l := by
  obtain ⟨ao, cap, rfl, h2, h3, h4⟩ := h
  refine ⟨ao, cap, rfl, h2, h3, fun i hi => ?_⟩
  obtain ⟨g, off, rfl, q2, q3, q4, q5⟩ := h4 i hi
  have hc : ∀ j, w'.cell? ⟨g, j, none⟩ = w.cell? ⟨g, j, none⟩ := fun j => World.cell?_of_block (t.block g (by omega) (hs g rfl))
  exact ⟨g, off, rfl, q2, (hc _).trans q3, (hc _).trans q4, (hc _).trans q5⟩
theorem StoreAt.lay {w : World} {B N Nd g m n : Nat} {cs : Array Value} {st : StP} {d : Dk} {ps : List PairP} (h : StoreAt w B N Nd g m n cs st d ps) (hB : B ≤ w.heap.size) (hwr : d.wr ≤ 900000000000000)
    (hlost : st.lost = false) (hf : st.fr ≤ 100000) (hz : st.sz ≤ 100000) (p : PlP) (hph : p.half ≤ 1) (hpa : p.at_ ≤ 10000) (hpg : p.gen < 4294967296) (hpn : p.num < 4294967295) (t : ByteArray) (ht : t.size ≤ 1000000) :
    Calls Tryz.prog 65 #[.pointer (some ⟨N, 0, none⟩), plV p, .string t] w fun e w' => ∃ d' code cs', e = .returned (.int .i64 code) ∧
      runD d (layL st p t.data.toList) = (d', code) ∧ StoreAt w' B N Nd g m n cs' (layS st p t.size code) d' ps ∧ Turned (fun b => b = N ∨ mineD Nd g b) w w' := by
  refine (lay_any B N Nd g m cs st d w h.held h.ok h.disk hB h.apart hwr hlost hf hz p hph hpa hpg hpn t ht).mono ?_
  rintro e w' ⟨d', code, cs', rfl, h1, h2, h3, h4, h5⟩
  exact ⟨d', code, cs', rfl, h1, ⟨h3, h4, h2, h.map.keep h5 (fun e => e.elim h.mN h.mD), h.apart⟩, h5⟩

set_option maxRecDepth 100000 in
set_option maxHeartbeats 4000000 in
theorem follow_any (B BB N Nd g m n : Nat) (cs : Array Value) (st : StP) (d : Dk) (ps : List PairP) (w : World) (h : StoreAt w B N Nd g m n cs st d ps) (hB : B ≤ w.heap.size) (hwr : d.wr ≤ 900000000000000)
    (hlost : st.lost = false) (hfr : st.fr ≤ 100000) (hz : st.sz ≤ 100000) (hph : st.pl.half ≤ 1) (hpa : st.pl.at_ ≤ 10000) (hpg : st.pl.gen < 4294967296) (hpn : st.pl.num < 4294967295) (t : ByteArray) (ht : t.size ≤ 1000000)
    (v : Value) (l : List Ch) (hv : ChsAt w BB v l) (hBB : BB ≤ w.heap.size) (hva : ∀ b, v.ownBlock = some b → b ≠ N ∧ ¬ mineD Nd g b) (hl : l.length ≤ 100000) (hn : n ≤ 100000000) (hfit : ∀ c ∈ l, c.fits) :
    Calls Tryz.prog 40 #[.pointer (some ⟨N, 0, none⟩), v, .string t] w fun e w' => ∃ d' code cs', e = .returned (.int .i64 code) ∧
      runD d (layL st st.pl t.data.toList) = (d', code) ∧ StoreAt w' B N Nd g m (n + l.length) cs' (layS st st.pl t.size code) d' (if code = 0 then behindP ps l else ps) ∧ Turned (mineS N Nd g m) w w' := by
  have hlay := h.lay hB hwr hlost hfr hz st.pl hph hpa hpg hpn t ht
  have c3 := h.held.cell 3
  have c4 := h.held.cell 4
  have c5 := h.held.cell 5
  have c6 := h.held.cell 6
  rw [h.ok.c3] at c3
  rw [h.ok.c4] at c4
  rw [h.ok.c5] at c5
  rw [h.ok.c6] at c6
  simp only [plV, plCells] at hlay
  have H := Lib.hid (And.intro h (And.intro hv hva))
  have Hl := Lib.hid (And.intro hlost hfit)
  clear h hv hva hlost hfit hpa hpg hpn hph hfr hz
  go_enter Tryz.func40, Tryz.ntmps40
  --@a
  have hchg : Hid (∀ w2 : World, MapP w2 m n ps → Turned (fun b => b = N ∨ mineD Nd g b) w w2 → Calls Tryz.prog 48 #[.map (some m), v] w2 fun e w' => e = .returned (.tuple #[]) ∧ MapP w' m (n + l.length) (behindP ps l) ∧ Turned (fun b => b = m) w2 w') := Lib.hid fun w2 hm2 ht2 => by
    obtain ⟨h, hv, hva⟩ := H.out
    exact change_any BB m n ps v l w2 hm2 (hv.keep ht2 hBB fun b e h => h.elim (hva b e).1 (hva b e).2) (by have := ht2.size; omega) hl hn Hl.out.2
  go_wp2_with (first
    | (go_at_call 65; refine hlay.mono ?_; rintro e w2 ⟨d2, code, cs2, rfl, hrun, hst2, ht2⟩; have c7 := hst2.held.cell 7; rw [hst2.ok.c7] at c7; have hch := hchg.out w2 hst2.map ht2; have Hs := Lib.hid (And.intro hrun (And.intro hst2 ht2)); clear hrun hst2 ht2)
    | (go_at_call 48; with_reducible refine hch.mono ?_; rintro e w3 ⟨rfl, hm3, ht3⟩))
  --@b
  · rename_i hcn
    have hc0 : code ≠ 0 := by simpa using hcn
    obtain ⟨hrun, hst2, ht2⟩ := Hs.out
    clear hch
    go_ret
    refine ⟨d2, code, cs2, rfl, hrun, ⟨hst2.held, hst2.ok, hst2.disk, ?_, hst2.apart⟩, ht2.mono fun b h => h.elim .inl fun h => .inr (.inl h)⟩
    rw [if_neg hc0]
    exact hst2.map.more (by omega)
  · rename_i hcn
    have hc0 : code = 0 := by simpa using hcn
    subst hc0
    obtain ⟨hrun, hst2, ht2⟩ := Hs.out
    clear hch
    go_ret
    refine ⟨d2, 0, cs2, rfl, hrun, ⟨hst2.held.of_turned ht3 (Ne.symm hst2.mN), hst2.ok, hst2.disk.keep ht3 (fun b hb e => hst2.mD (e ▸ hb)), ?_, hst2.apart⟩, (ht2.mono (T := mineS N Nd g m) fun b h => h.elim .inl fun h => .inr (.inl h)).trans ht3 fun b e => .inl (.inr (.inr e))⟩
    rw [if_pos rfl]
    exact hm3
end Go.Proofs.YtgpdplffljidbaaGreatDoor
