/-
  Texts of this proof, put together: SpJ, SpK, SpL.
-/
import Derived.Test.YtgpdplffljidbaaGreatDoorZ33
import Derived.Test.YtgpdplffljidbaaGreatDoorZ34
namespace Go.Proofs.YtgpdplffljidbaaGreatDoor
open Go.RowKit

def GetC (w : World) (p : Value) (ps : List PairP) : Prop := ∀ W, Below w.heap.size w W → ∀ k : List UInt8, k.length ≤ 1000 →
  Calls Tryz.prog 23 #[p, .string (textQ k)] W fun e w' => e = .returned (.tuple #[.string (textQ ((findP ps k).getD [])), .bool (findP ps k).isSome]) ∧ Below W.heap.size W w'

set_option maxRecDepth 100000 in
set_option maxHeartbeats 4000000 in
theorem sget_yes (w : World) (N : Nat) (ps : List PairP) (l : List ItemS) (top : Nat) (lt : Option (List UInt8)) (hG : GetC w (.pointer (some ⟨N, 0, none⟩)) ps) (hq : QueueB ps l top lt) (ht : PowIs w) (x : ItemS) (hx : x ∈ l) (n : Nat) (hi : x.id = (n : Int)) :
    Calls Tryz.prog 20 #[.pointer (some ⟨N, 0, none⟩), .int .i64 (n : Int)] w fun e w' => e = .returned (.tuple #[itemV x, .bool true]) ∧ Below w.heap.size w w' := by
  obtain ⟨hr, n0, e0, n1, n2⟩ := hq.ok x hx
  have hfw := hq.few
  have hn : n = n0 := by rw [hi] at e0; omega
  have hm : n ≤ 99999999 := by omega
  have hit := hq.item x hx
  rw [hi, Int.toNat_natCast] at hit
  have hky := fun W (hW : Below w.heap.size w W) => skey_any n W hm (pow_below ht hW)
  have hgt := fun W (hW : Below w.heap.size w W) => hG W hW (keyS n) (by rw [key_len hm]; omega)
  rw [hit] at hgt
  have hps := fun W => sparse_any x n W hr (by omega)
  unfold itemV
  rw [hi]
  obtain ⟨F, hF⟩ : ∃ F, textQ x.fr = F := ⟨_, rfl⟩
  obtain ⟨O, hO⟩ : ∃ F, textQ x.to = F := ⟨_, rfl⟩
  obtain ⟨X, hX⟩ : ∃ F, textQ x.tx = F := ⟨_, rfl⟩
  obtain ⟨K, hK⟩ : ∃ K, textQ (keyS n) = K := ⟨_, rfl⟩
  obtain ⟨T, hT⟩ : ∃ T, textQ (textS x) = T := ⟨_, rfl⟩
  rw [hF, hO, hX, hT] at hps
  rw [hF, hO, hX]
  rw [hK] at hky hgt
  replace hgt : ∀ W, Below w.heap.size w W → Calls Tryz.prog 23 #[.pointer (some ⟨N, 0, none⟩), .string K] W fun e w' => e = .returned (.tuple #[.string T, .bool true]) ∧ Below W.heap.size W w' := fun W hW => by
    rw [← hT]
    exact hgt W hW
  obtain ⟨w1, hw1⟩ : ∃ w1, w.alloc (.cells #[.int .i64 0, .string ⟨#[]⟩, .string ⟨#[]⟩, .string ⟨#[]⟩, .int .i64 0, .int .i64 0, .int .i64 0] 44) = w1 := ⟨_, rfl⟩
  have b1 : Below w.heap.size w w1 := by rw [← hw1]; exact (Below.refl _ _).alloc (Nat.le_refl _) _
  have o1 : ItAt w1 w.heap.size 0 ⟨#[]⟩ ⟨#[]⟩ ⟨#[]⟩ 0 0 0 := by rw [← hw1]; exact it_new w _ _ _ _ _ _ _
  have hk1 := hky w1 b1
  have K1 := Lib.hid (And.intro b1 o1)
  have HG := Lib.hid hgt
  have HP := Lib.hid hps
  have hdc : decide ((99999999 : Int) < (n : Int)) = false := decide_eq_false (by omega)
  clear hky hgt hps hF hO hX hK hT b1 o1 hit hG hq ht hx hr hn hm hfw n1 n2 hi e0
  go_enter Tryz.func20, Tryz.ntmps20
  go_wp2_with fail
  refine hk1.mono ?_
  rintro e w2 ⟨rfl, hb⟩
  have K2 := Lib.hid (And.intro (K1.out.1.trans (hb.mono K1.out.1.size)) (K1.out.2.below hb))
  have hg2 := HG.out w2 K2.out.1
  clear hk1 hb
  go_wp2_with fail
  refine hg2.mono ?_
  rintro e w3 ⟨rfl, hb⟩
  have K3 := Lib.hid (And.intro (K2.out.1.trans (hb.mono K2.out.1.size)) (K2.out.2.below hb))
  have hp3 := HP.out w3
  clear hg2 hb
  go_wp2_with fail
  refine hp3.mono ?_
  rintro e w4 ⟨rfl, hb⟩
  obtain ⟨w5, hw5⟩ : ∃ w5, w4.alloc (.cells #[.int .i64 (n : Int), .string F, .string O, .string X, .int .i64 x.b, .int .i64 x.t, .int .i64 x.d] 44) = w5 := ⟨_, rfl⟩
  have b5 : Below w4.heap.size w4 w5 := by rw [← hw5]; exact (Below.refl _ _).alloc (Nat.le_refl _) _
  have i5 : ItAt w5 w4.heap.size n F O X x.b x.t x.d := by rw [← hw5]; exact it_new w4 _ _ _ _ _ _ _
  have b35 := hb.trans (b5.mono hb.size)
  have o5 := K3.out.2.below b35
  obtain ⟨v0, v1, v2, v3, v4, v5, v6, _⟩ := i5.cells
  obtain ⟨u0, u1, u2, u3, u4, u5, u6, f0, f1, f2, f3, f4, f5, f6⟩ := o5.cells
  have KP := Lib.hid o5
  have Fin := Lib.hid (below_putI (K3.out.1.trans (b35.mono K3.out.1.size)) (Nat.le_refl _) (n : Int) F O X x.b x.t x.d)
  unfold putI at Fin
  clear hp3 hb b5 i5 b35 o5
  go_wp2
  obtain ⟨g0, g1, g2, g3, g4, g5, g6, _⟩ := (KP.out.put (n : Int) F O X x.b x.t x.d).cells
  unfold putI at g0 g1 g2 g3 g4 g5 g6
  refine bodyPost_ret (v := .tuple #[.agg #[.int .i64 (n : Int), .string F, .string O, .string X, .int .i64 x.b, .int .i64 x.t, .int .i64 x.d], .bool true]) (by simp [results, Tryz.f20, go_sem, g0, g1, g2, g3, g4, g5, g6]) rfl ?_
  exact ⟨rfl, Fin.out⟩
set_option maxRecDepth 100000 in
set_option maxHeartbeats 4000000 in
theorem sget_no (w : World) (N : Nat) (ps : List PairP) (l : List ItemS) (top : Nat) (lt : Option (List UInt8)) (hG : GetC w (.pointer (some ⟨N, 0, none⟩)) ps) (hq : QueueB ps l top lt) (ht : PowIs w) (n : Nat) (hm : n ≤ 99999999) (hno : ∀ x ∈ l, x.id ≠ (n : Int)) :
    Calls Tryz.prog 20 #[.pointer (some ⟨N, 0, none⟩), .int .i64 (n : Int)] w fun e w' => e = .returned (.tuple #[itemW 0 ⟨#[]⟩ ⟨#[]⟩ ⟨#[]⟩ 0 0 0, .bool false]) ∧ Below w.heap.size w w' := by
  have hit := hq.none n hm hno
  have hky := fun W (hW : Below w.heap.size w W) => skey_any n W hm (pow_below ht hW)
  have hgt := fun W (hW : Below w.heap.size w W) => hG W hW (keyS n) (by rw [key_len hm]; omega)
  rw [hit] at hgt
  obtain ⟨K, hK⟩ : ∃ K, textQ (keyS n) = K := ⟨_, rfl⟩
  rw [hK] at hky hgt
  replace hgt : ∀ W, Below w.heap.size w W → Calls Tryz.prog 23 #[.pointer (some ⟨N, 0, none⟩), .string K] W fun e w' => e = .returned (.tuple #[.string ⟨#[]⟩, .bool false]) ∧ Below W.heap.size W w' := fun W hW => hgt W hW
  obtain ⟨w1, hw1⟩ : ∃ w1, w.alloc (.cells #[.int .i64 0, .string ⟨#[]⟩, .string ⟨#[]⟩, .string ⟨#[]⟩, .int .i64 0, .int .i64 0, .int .i64 0] 44) = w1 := ⟨_, rfl⟩
  have b1 : Below w.heap.size w w1 := by rw [← hw1]; exact (Below.refl _ _).alloc (Nat.le_refl _) _
  have o1 : ItAt w1 w.heap.size 0 ⟨#[]⟩ ⟨#[]⟩ ⟨#[]⟩ 0 0 0 := by rw [← hw1]; exact it_new w _ _ _ _ _ _ _
  have hk1 := hky w1 b1
  have K1 := Lib.hid (And.intro b1 o1)
  have HG := Lib.hid hgt
  clear hky hgt hK b1 o1 hit hG hq ht hm hno
  go_enter Tryz.func20, Tryz.ntmps20
  go_wp2_with fail
  refine hk1.mono ?_
  rintro e w2 ⟨rfl, hb⟩
  have K2 := Lib.hid (And.intro (K1.out.1.trans (hb.mono K1.out.1.size)) (K1.out.2.below hb))
  have hg2 := HG.out w2 K2.out.1
  clear hk1 hb
  go_wp2_with fail
  refine hg2.mono ?_
  rintro e w3 ⟨rfl, hb⟩
  have o3 := K2.out.2.below hb
  obtain ⟨u0, u1, u2, u3, u4, u5, u6, f0, f1, f2, f3, f4, f5, f6⟩ := o3.cells
  have KP := Lib.hid o3
  have Fin := Lib.hid (below_putI (K2.out.1.trans (hb.mono K2.out.1.size)) (Nat.le_refl _) 0 ⟨#[]⟩ ⟨#[]⟩ ⟨#[]⟩ 0 0 0)
  unfold putI at Fin
  clear hg2 hb o3
  go_wp2
  obtain ⟨g0, g1, g2, g3, g4, g5, g6, _⟩ := (KP.out.put 0 ⟨#[]⟩ ⟨#[]⟩ ⟨#[]⟩ 0 0 0).cells
  unfold putI at g0 g1 g2 g3 g4 g5 g6
  refine bodyPost_ret (v := .tuple #[.agg #[.int .i64 0, .string ⟨#[]⟩, .string ⟨#[]⟩, .string ⟨#[]⟩, .int .i64 0, .int .i64 0, .int .i64 0], .bool false]) (by simp [results, Tryz.f20, go_sem, g0, g1, g2, g3, g4, g5, g6]) rfl ?_
  exact ⟨rfl, Fin.out⟩
end Go.Proofs.YtgpdplffljidbaaGreatDoor
namespace Go.Proofs.YtgpdplffljidbaaGreatDoor
open Go.RowKit

def valS (l : List UInt8) : Nat := l.foldl (fun n c => 10 * n + (c.toNat - 48)) 0
theorem val_snoc (l : List UInt8) (c : UInt8) : valS (l ++ [c]) = 10 * valS l + (c.toNat - 48) := by
  unfold valS
  rw [List.foldl_append]
  rfl
theorem val_grow : ∀ (m l : List UInt8), valS l ≤ valS (l ++ m)
  | [], l => by rw [List.append_nil]; exact Nat.le_refl _
  | c :: m, l => by
    have h := val_grow m (l ++ [c])
    rw [val_snoc, List.append_assoc] at h
    exact Nat.le_trans (by omega) h
theorem dig_byte {d : Nat} (h : d < 10) : (UInt8.ofNat (48 + d)).toNat = 48 + d := by
  rw [UInt8.toNat_ofNat']
  omega
theorem val_dec : ∀ (m n : Nat), n < m → valS (Lib.decDigits n) = n
  | 0, n, h => by omega
  | m + 1, n, h => by
    by_cases h1 : n < 10
    · rw [Lib.decDigits, dif_pos h1]
      show 10 * 0 + ((UInt8.ofNat (48 + n)).toNat - 48) = n
      rw [dig_byte h1]
      omega
    · have e : Lib.decDigits n = Lib.decDigits (n / 10) ++ [UInt8.ofNat (48 + n % 10)] := by
        conv =>
          lhs
          rw [Lib.decDigits, dif_neg h1]
      rw [e, val_snoc, val_dec m (n / 10) (by omega), dig_byte (Nat.mod_lt _ (by decide))]
      omega
theorem dec_digit : ∀ (m n : Nat), n < m → ∀ c ∈ Lib.decDigits n, 48 ≤ c.toNat ∧ c.toNat ≤ 57
  | 0, n, h => by omega
  | m + 1, n, h => fun c hc => by
    by_cases h1 : n < 10
    · rw [Lib.decDigits, dif_pos h1] at hc
      rw [List.mem_singleton.1 hc, dig_byte h1]
      omega
    · have e : Lib.decDigits n = Lib.decDigits (n / 10) ++ [UInt8.ofNat (48 + n % 10)] := by
        conv =>
          lhs
          rw [Lib.decDigits, dif_neg h1]
      rw [e] at hc
      rcases List.mem_append.1 hc with hc | hc
      · exact dec_digit m (n / 10) (by omega) c hc
      · rw [List.mem_singleton.1 hc, dig_byte (Nat.mod_lt _ (by decide))]
        omega
theorem dec_head : ∀ (m n : Nat), n < m → 1 ≤ n → ∃ c r, Lib.decDigits n = c :: r ∧ c.toNat ≠ 48
  | 0, n, h, _ => by omega
  | m + 1, n, h, h0 => by
    by_cases h1 : n < 10
    · rw [Lib.decDigits, dif_pos h1]
      exact ⟨_, [], rfl, by rw [dig_byte h1]; omega⟩
    · obtain ⟨c, r, e, hc⟩ := dec_head m (n / 10) (by omega) (by omega)
      refine ⟨c, r ++ [UInt8.ofNat (48 + n % 10)], ?_, hc⟩
      conv =>
        lhs
        rw [Lib.decDigits, dif_neg h1]
      rw [e]
      rfl

set_option maxRecDepth 100000 in
set_option maxHeartbeats 2000000 in
theorem slast_any (w : World) (N : Nat) (ps : List PairP) (l : List ItemS) (last : Nat) (hG : GetC w (.pointer (some ⟨N, 0, none⟩)) ps) (hq : QueueP ps l last) :
    Calls Tryz.prog 31 #[.pointer (some ⟨N, 0, none⟩)] w fun e w' => e = .returned (.int .i64 (last : Int)) ∧ Below w.heap.size w w' := by
  have hg := hG w (Below.refl _ _) [113] (by decide)
  have hfw := hq.few
  rw [hq.last] at hg
  rw [show textQ [113] = (⟨#[113]⟩ : ByteArray) from rfl] at hg
  obtain ⟨D, b, hD, hv, hd, hp0, hD8⟩ : ∃ (D : List UInt8) (b : Bool), (((if last = 0 then none else some (Lib.decDigits last)).getD [], (if last = 0 then none else some (Lib.decDigits last)).isSome) : List UInt8 × Bool) = (D, b) ∧ valS D = last ∧ (∀ c ∈ D, 48 ≤ c.toNat ∧ c.toNat ≤ 57) ∧ Lib.hasPrefix D [48] = false ∧ D.length ≤ 8 := by
    by_cases h0 : last = 0
    · refine ⟨[], false, ?_, h0.symm, fun c hc => (by cases hc), rfl, by decide⟩
      rw [if_pos h0]
      rfl
    · refine ⟨Lib.decDigits last, true, ?_, val_dec (last + 1) last (by omega), dec_digit (last + 1) last (by omega), ?_, by rw [Lib.decDigits_length]; exact digits_8 hfw⟩
      · rw [if_neg h0]
        rfl
      · obtain ⟨c, r, e, hc⟩ := dec_head (last + 1) last (by omega) (by omega)
        rw [e]
        unfold Lib.hasPrefix
        rw [List.isPrefixOf, show ((48 : UInt8) == c) = false from beq_eq_false_iff_ne.2 (fun e => hc (by rw [← e]; rfl)), Bool.false_and]
  obtain ⟨e1, e2⟩ := Prod.mk.inj hD
  rw [e1, e2] at hg
  obtain ⟨T, hT⟩ : ∃ T, textQ D = T := ⟨_, rfl⟩
  rw [hT] at hg
  have hTl : T.data.toList = D := by rw [← hT]; rfl
  have hTs : T.size = D.length := by rw [← hT]; rfl
  have hp := fun W => Tryz.strings_HasPrefix T ⟨#[48]⟩ W
  rw [hTl, show (⟨#[48]⟩ : ByteArray).data.toList = [48] from rfl, hp0] at hp
  have hstep : ∀ i, i < T.size → ∃ c : UInt8, T.data.toList[i]? = some c ∧ 48 ≤ c.toNat ∧ c.toNat ≤ 57 ∧ valS (D.take (i + 1)) = 10 * valS (D.take i) + (c.toNat - 48) ∧ valS (D.take (i + 1)) ≤ last := fun i hi => by
    have hil : i < D.length := by omega
    obtain ⟨d1, d2⟩ := hd D[i] (List.getElem_mem hil)
    have hg2 := val_grow (D.drop (i + 1)) (D.take (i + 1))
    rw [List.take_append_drop, hv] at hg2
    refine ⟨D[i], by rw [hTl, List.getElem?_eq_getElem hil], d1, d2, ?_, hg2⟩
    rw [List.take_succ_eq_append_getElem hil, val_snoc]
  have hT8 : T.size ≤ 8 := by omega
  have HS := Lib.hid hstep
  have HD := Lib.hid (And.intro hv hTs)
  clear hG hq hD hv hd hp0 e1 e2 hT hTl hTs hstep hD8
  go_enter Tryz.func31, Tryz.ntmps31
  go_wp2_with fail
  refine hg.mono ?_
  rintro e w1 ⟨rfl, hb⟩
  have hp1 := hp w1
  have Fin := Lib.hid hb
  clear hg hb hp
  go_wp2_with fail
  refine hp1.mono ?_
  rintro e w2 ⟨rfl, rfl⟩
  clear hp1
  go_wp2
  go_loopw [5, 16] (fun lv iv wr => ∃ i : Nat, i ≤ T.size ∧ iv = .int .i64 i ∧ lv = .int .i64 (valS (D.take i) : Int) ∧ wr = w2) (fun _ iv _ => T.size - (intOf iv).toNat)
  case atStart => exact ⟨0, by omega, rfl, rfl, rfl⟩
  case round =>
    obtain ⟨i, hi, rfl, rfl, rfl⟩ := hrel
    by_cases hlt : i < T.size
    · obtain ⟨c, hc, d1, d2, hst, hle⟩ := HS.out i hlt
      obtain ⟨v, hv⟩ : ∃ v, valS (D.take i) = v := ⟨_, rfl⟩
      obtain ⟨u, hu⟩ : ∃ u, valS (D.take (i + 1)) = u := ⟨_, rfl⟩
      rw [hv] at hst ⊢
      rw [hu] at hst hle
      have hci : T[i] = c := by
        have h : T.data.toList[i]? = some T[i] := by
          rw [List.getElem?_eq_getElem (show i < T.data.toList.length from hlt)]
          rfl
        rw [h] at hc
        exact Option.some.inj hc
      have HU := Lib.hid (And.intro hu hst)
      clear hv hu hc
      go_wp2
      go_roundw
      case rel =>
        refine ⟨i + 1, by omega, by go_num, ?_, trivial⟩
        rw [HU.out.1]
        congr 1
        omega
      case measure => simp [intOf]; omega
    · obtain rfl : i = T.size := by omega
      rw [show D.take T.size = D by rw [HD.out.2, List.take_length], HD.out.1]
      go_wp2
      go_ret
      exact ⟨rfl, Fin.out⟩
end Go.Proofs.YtgpdplffljidbaaGreatDoor
namespace Go.Proofs.YtgpdplffljidbaaGreatDoor
open Go.RowKit

def ChAt (w : World) (B : Nat) (k v : ByteArray) (g : Bool) : Prop := w.heap[B]? = some (.cells #[.string k, .string v, .bool g] 50 (0, 0))
section
variable {w w' : World} {B : Nat} {k v : ByteArray} {g : Bool}
theorem ChAt.lt (h : ChAt w B k v g) : B < w.heap.size := (Array.getElem?_eq_some_iff.1 h).1
theorem ChAt.cells (h : ChAt w B k v g) : w.cell? ⟨B, 0, none⟩ = some (.string k) ∧ w.cell? ⟨B, 1, none⟩ = some (.string v) ∧ w.cell? ⟨B, 2, none⟩ = some (.bool g) ∧ w.frozen? ⟨B, 0, none⟩ = false ∧ w.frozen? ⟨B, 1, none⟩ = false ∧ w.frozen? ⟨B, 2, none⟩ = false :=
  ⟨Lib.cell_of_heap h 0, Lib.cell_of_heap h 1, Lib.cell_of_heap h 2, Lib.frozen_of_heap h 0, Lib.frozen_of_heap h 1, Lib.frozen_of_heap h 2⟩
theorem ChAt.below (h : ChAt w B k v g) (hb : Below w.heap.size w w') : ChAt w' B k v g := (hb.block _ h.lt).trans h
def putCh (w : World) (B : Nat) (k v : ByteArray) (g : Bool) : World := ((w.setCell ⟨B, 0, none⟩ (.string k)).setCell ⟨B, 1, none⟩ (.string v)).setCell ⟨B, 2, none⟩ (.bool g)
theorem ChAt.put (h : ChAt w B k v g) (k' v' : ByteArray) (g' : Bool) : ChAt (putCh w B k' v' g') B k' v' g' := by
  unfold ChAt at h ⊢
  unfold putCh
  have h1 := heap_setCell_same w B 0 _ _ (.string k') h
  have h2 := heap_setCell_same _ B 1 _ _ (.string v') h1
  have h3 := heap_setCell_same _ B 2 _ _ (.bool g') h2
  rw [h3]
  rfl
theorem below_putCh {M : Nat} {u : World} (h : Below M u w) (hB : M ≤ B) (k v : ByteArray) (g : Bool) : Below M u (putCh w B k v g) := by
  unfold putCh
  exact ((h.setCell (p := ⟨B, 0, none⟩) hB _).setCell (p := ⟨B, 1, none⟩) hB _).setCell (p := ⟨B, 2, none⟩) hB _
end

set_option maxRecDepth 100000 in
set_option maxHeartbeats 4000000 in
theorem sfailed_err (w : World) (N : Nat) (ps : List PairP) (l : List ItemS) (top : Nat) (lt : Option (List UInt8)) (hG : GetC w (.pointer (some ⟨N, 0, none⟩)) ps) (hq : QueueB ps l top lt) (ht : PowIs w) (x : ItemS) (hx : x ∈ l) (n : Nat) (hi : x.id = (n : Int)) (now : Int) (r : TurnT) (o : Bool) (co : Int) (hres : failT x.b x.t x.d now = (r, o, co)) (hco : co ≠ 0) :
    Calls Tryz.prog 16 #[.pointer (some ⟨N, 0, none⟩), .int .i64 (n : Int), .int .i64 now] w fun e w' => e = .returned (.tuple #[chV [] [] false, .bool false, .int .i64 co]) ∧ Below w.heap.size w w' := by
  obtain ⟨rb, rt, rd⟩ := r
  obtain ⟨hr, n0, e0, n1, n2⟩ := hq.ok x hx
  have hm : n ≤ 99999999 := by have := hq.few; rw [hi] at e0; omega
  have hgt := fun W (hW : Below w.heap.size w W) => sget_yes W N ps l top lt (fun V hV => hG V (hW.trans (hV.mono hW.size))) hq (pow_below ht hW) x hx n hi
  have hfl := fun W => rfailed_any x.b x.t x.d now W
  unfold itemV at hgt
  unfold failV turnX at hfl
  rw [hi] at hgt
  rw [hres] at hfl
  obtain ⟨F, hF⟩ : ∃ F, textQ x.fr = F := ⟨_, rfl⟩
  obtain ⟨O, hO⟩ : ∃ F, textQ x.to = F := ⟨_, rfl⟩
  obtain ⟨X, hX⟩ : ∃ F, textQ x.tx = F := ⟨_, rfl⟩
  rw [hF, hO, hX] at hgt
  have hcc : ((co : Int) != 0) = true := by simpa using hco
  obtain ⟨w1, hw1⟩ : ∃ w1, w.alloc (.cells #[.string ⟨#[]⟩, .string ⟨#[]⟩, .bool false] 50) = w1 := ⟨_, rfl⟩
  have b1 : Below w.heap.size w w1 := by rw [← hw1]; exact (Below.refl _ _).alloc (Nat.le_refl _) _
  have h1 : ChAt w1 w.heap.size ⟨#[]⟩ ⟨#[]⟩ false := by rw [← hw1]; exact heap_alloc_new w _
  have hg1 := hgt w1 b1
  have K1 := Lib.hid (And.intro b1 h1)
  have HFl := Lib.hid hfl
  clear hgt hfl hF hO hX b1 h1 hG hq ht hx hr e0 n1 n2 hres hco hm hi
  go_enter Tryz.func16, Tryz.ntmps16
  go_wp2_with fail
  refine hg1.mono ?_
  rintro e w2 ⟨rfl, hb⟩
  have hz12 := hb.size
  obtain ⟨w3, hw3⟩ : ∃ w3, w2.alloc (.cells #[.int .i64 (n : Int), .string F, .string O, .string X, .int .i64 x.b, .int .i64 x.t, .int .i64 x.d] 44) = w3 := ⟨_, rfl⟩
  have b3 : Below w2.heap.size w2 w3 := by rw [← hw3]; exact (Below.refl _ _).alloc (Nat.le_refl _) _
  have i3 : ItAt w3 w2.heap.size n F O X x.b x.t x.d := by rw [← hw3]; exact it_new w2 _ _ _ _ _ _ _
  have b13 := hb.trans (b3.mono hb.size)
  have K3 := Lib.hid (And.intro (K1.out.1.trans (b13.mono K1.out.1.size)) (And.intro (K1.out.2.below b13) i3))
  have hf3 := HFl.out w3
  obtain ⟨v0, v1, v2, v3, v4, v5, v6, _⟩ := i3.cells
  clear hg1 hb b3 b13 i3
  go_wp2_with fail
  refine hf3.mono ?_
  rintro e w4 ⟨rfl, hb⟩
  obtain ⟨w5, hw5⟩ : ∃ w5, w4.alloc (.cells #[.int .i64 rb, .int .i64 rt, .int .i64 rd] 42) = w5 := ⟨_, rfl⟩
  have b5 : Below w4.heap.size w4 w5 := by rw [← hw5]; exact (Below.refl _ _).alloc (Nat.le_refl _) _
  have b35 := hb.trans (b5.mono hb.size)
  have o5 := K3.out.2.1.below b35
  obtain ⟨u0, u1, u2, f0, f1, f2⟩ := o5.cells
  have KP := Lib.hid o5
  have Fin := Lib.hid (below_putCh (K3.out.1.trans (b35.mono K3.out.1.size)) (Nat.le_refl _) ⟨#[]⟩ ⟨#[]⟩ false)
  unfold putCh at Fin
  have HW5 := Lib.hid hw5
  clear hf3 hb b5 b35 o5 v0 v1 v2 v3 v4 v5 v6
  clear HW5
  go_wp2
  obtain ⟨g0, g1, g2, _⟩ := (KP.out.put ⟨#[]⟩ ⟨#[]⟩ false).cells
  unfold putCh at g0 g1 g2
  refine bodyPost_ret (v := .tuple #[.agg #[.string ⟨#[]⟩, .string ⟨#[]⟩, .bool false], .bool false, .int .i64 co]) (by simp [results, Tryz.f16, go_sem, g0, g1, g2]) rfl ?_
  exact ⟨rfl, Fin.out⟩

set_option maxRecDepth 100000 in
set_option maxHeartbeats 4000000 in
theorem sfailed_over (w : World) (N : Nat) (ps : List PairP) (l : List ItemS) (top : Nat) (lt : Option (List UInt8)) (hG : GetC w (.pointer (some ⟨N, 0, none⟩)) ps) (hq : QueueB ps l top lt) (ht : PowIs w) (x : ItemS) (hx : x ∈ l) (n : Nat) (hi : x.id = (n : Int)) (now : Int) (r : TurnT) (hres : failT x.b x.t x.d now = (r, true, 0)) :
    Calls Tryz.prog 16 #[.pointer (some ⟨N, 0, none⟩), .int .i64 (n : Int), .int .i64 now] w fun e w' => e = .returned (.tuple #[chV (keyS n) [] true, .bool true, .int .i64 0]) ∧ Below w.heap.size w w' := by
  obtain ⟨rb, rt, rd⟩ := r
  have htt := ht
  obtain ⟨hr, n0, e0, n1, n2⟩ := hq.ok x hx
  have hm : n ≤ 99999999 := by have := hq.few; rw [hi] at e0; omega
  have hgt := fun W (hW : Below w.heap.size w W) => sget_yes W N ps l top lt (fun V hV => hG V (hW.trans (hV.mono hW.size))) hq (pow_below ht hW) x hx n hi
  have hfl := fun W => rfailed_any x.b x.t x.d now W
  unfold itemV at hgt
  unfold failV turnX at hfl
  rw [hi] at hgt
  rw [hres] at hfl
  obtain ⟨F, hF⟩ : ∃ F, textQ x.fr = F := ⟨_, rfl⟩
  obtain ⟨O, hO⟩ : ∃ F, textQ x.to = F := ⟨_, rfl⟩
  obtain ⟨X, hX⟩ : ∃ F, textQ x.tx = F := ⟨_, rfl⟩
  rw [hF, hO, hX] at hgt
  have hdr := fun W (hW : Below w.heap.size w W) => sdrop_any n W hm (pow_below htt hW)
  unfold chV at hdr ⊢
  obtain ⟨K, hK⟩ : ∃ K, textQ (keyS n) = K := ⟨_, rfl⟩
  rw [hK] at hdr ⊢
  rw [show textQ [] = (⟨#[]⟩ : ByteArray) from rfl] at hdr ⊢
  have HDr := Lib.hid hdr
  obtain ⟨w1, hw1⟩ : ∃ w1, w.alloc (.cells #[.string ⟨#[]⟩, .string ⟨#[]⟩, .bool false] 50) = w1 := ⟨_, rfl⟩
  have b1 : Below w.heap.size w w1 := by rw [← hw1]; exact (Below.refl _ _).alloc (Nat.le_refl _) _
  have h1 : ChAt w1 w.heap.size ⟨#[]⟩ ⟨#[]⟩ false := by rw [← hw1]; exact heap_alloc_new w _
  have hg1 := hgt w1 b1
  have K1 := Lib.hid (And.intro b1 h1)
  have HFl := Lib.hid hfl
  clear hgt hfl hF hO hX b1 h1 hG hq ht hx hr e0 n1 n2 hres hdr hK htt hm hi
  go_enter Tryz.func16, Tryz.ntmps16
  go_wp2_with fail
  refine hg1.mono ?_
  rintro e w2 ⟨rfl, hb⟩
  have hz12 := hb.size
  obtain ⟨w3, hw3⟩ : ∃ w3, w2.alloc (.cells #[.int .i64 (n : Int), .string F, .string O, .string X, .int .i64 x.b, .int .i64 x.t, .int .i64 x.d] 44) = w3 := ⟨_, rfl⟩
  have b3 : Below w2.heap.size w2 w3 := by rw [← hw3]; exact (Below.refl _ _).alloc (Nat.le_refl _) _
  have i3 : ItAt w3 w2.heap.size n F O X x.b x.t x.d := by rw [← hw3]; exact it_new w2 _ _ _ _ _ _ _
  have b13 := hb.trans (b3.mono hb.size)
  have K3 := Lib.hid (And.intro (K1.out.1.trans (b13.mono K1.out.1.size)) (And.intro (K1.out.2.below b13) i3))
  have hf3 := HFl.out w3
  obtain ⟨v0, v1, v2, v3, v4, v5, v6, _⟩ := i3.cells
  clear hg1 hb b3 b13 i3
  go_wp2_with fail
  refine hf3.mono ?_
  rintro e w4 ⟨rfl, hb⟩
  obtain ⟨w5, hw5⟩ : ∃ w5, w4.alloc (.cells #[.int .i64 rb, .int .i64 rt, .int .i64 rd] 42) = w5 := ⟨_, rfl⟩
  have b5 : Below w4.heap.size w4 w5 := by rw [← hw5]; exact (Below.refl _ _).alloc (Nat.le_refl _) _
  have b35 := hb.trans (b5.mono hb.size)
  have K5 := Lib.hid (And.intro (K3.out.1.trans (b35.mono K3.out.1.size)) (K3.out.2.1.below b35))
  have hd5 := HDr.out w5 K5.out.1
  rw [← hw5] at hd5
  have HW5 := Lib.hid hw5
  clear hf3 hb b5 b35 v0 v1 v2 v3 v4 v5 v6 hw5
  go_wp2_with fail
  refine hd5.mono ?_
  rintro e w6 ⟨rfl, hb⟩
  rw [HW5.out] at hb
  have o6 := K5.out.2.below hb
  obtain ⟨u0, u1, u2, f0, f1, f2⟩ := o6.cells
  have KP := Lib.hid o6
  have Fin := Lib.hid (below_putCh (K5.out.1.trans (hb.mono K5.out.1.size)) (Nat.le_refl _) K ⟨#[]⟩ true)
  unfold putCh at Fin
  clear hd5 hb o6
  go_wp2
  obtain ⟨g0, g1, g2, _⟩ := (KP.out.put K ⟨#[]⟩ true).cells
  unfold putCh at g0 g1 g2
  refine bodyPost_ret (v := .tuple #[.agg #[.string K, .string ⟨#[]⟩, .bool true], .bool true, .int .i64 0]) (by simp [results, Tryz.f16, go_sem, g0, g1, g2]) rfl ?_
  exact ⟨rfl, Fin.out⟩

set_option maxRecDepth 100000 in
set_option maxHeartbeats 4000000 in
theorem sfailed_again (w : World) (N : Nat) (ps : List PairP) (l : List ItemS) (top : Nat) (lt : Option (List UInt8)) (hG : GetC w (.pointer (some ⟨N, 0, none⟩)) ps) (hq : QueueB ps l top lt) (ht : PowIs w) (x : ItemS) (hx : x ∈ l) (n : Nat) (hi : x.id = (n : Int)) (now : Int) (rb rt rd : Int) (hres : failT x.b x.t x.d now = ((rb, rt, rd), false, 0)) (hr2 : rightS { x with b := rb, t := rt, d := rd } = true) :
    Calls Tryz.prog 16 #[.pointer (some ⟨N, 0, none⟩), .int .i64 (n : Int), .int .i64 now] w fun e w' => e = .returned (.tuple #[chV (keyS n) (textS { x with b := rb, t := rt, d := rd }) false, .bool false, .int .i64 0]) ∧ Below w.heap.size w w' := by
  have htt := ht
  obtain ⟨hr, n0, e0, n1, n2⟩ := hq.ok x hx
  have hm : n ≤ 99999999 := by have := hq.few; rw [hi] at e0; omega
  have hgt := fun W (hW : Below w.heap.size w W) => sget_yes W N ps l top lt (fun V hV => hG V (hW.trans (hV.mono hW.size))) hq (pow_below ht hW) x hx n hi
  have hfl := fun W => rfailed_any x.b x.t x.d now W
  unfold itemV at hgt
  unfold failV turnX at hfl
  rw [hi] at hgt
  rw [hres] at hfl
  obtain ⟨F, hF⟩ : ∃ F, textQ x.fr = F := ⟨_, rfl⟩
  obtain ⟨O, hO⟩ : ∃ F, textQ x.to = F := ⟨_, rfl⟩
  obtain ⟨X, hX⟩ : ∃ F, textQ x.tx = F := ⟨_, rfl⟩
  rw [hF, hO, hX] at hgt
  have hpu := fun W (hW : Below w.heap.size w W) => sput_any { x with b := rb, t := rt, d := rd } n W hi hm hr2 (pow_below htt hW)
  unfold chV at hpu ⊢
  unfold itemV at hpu
  obtain ⟨K, hK⟩ : ∃ K, textQ (keyS n) = K := ⟨_, rfl⟩
  obtain ⟨T, hT⟩ : ∃ T, textQ (textS { x with b := rb, t := rt, d := rd }) = T := ⟨_, rfl⟩
  rw [hK, hT] at hpu ⊢
  simp only [hi, hF, hO, hX] at hpu
  have HPu := Lib.hid hpu
  obtain ⟨w1, hw1⟩ : ∃ w1, w.alloc (.cells #[.string ⟨#[]⟩, .string ⟨#[]⟩, .bool false] 50) = w1 := ⟨_, rfl⟩
  have b1 : Below w.heap.size w w1 := by rw [← hw1]; exact (Below.refl _ _).alloc (Nat.le_refl _) _
  have h1 : ChAt w1 w.heap.size ⟨#[]⟩ ⟨#[]⟩ false := by rw [← hw1]; exact heap_alloc_new w _
  have hg1 := hgt w1 b1
  have K1 := Lib.hid (And.intro b1 h1)
  have HFl := Lib.hid hfl
  clear hgt hfl hF hO hX b1 h1 hG hq ht hx hr e0 n1 n2 hres hpu hK hT htt hm hi hr2
  go_enter Tryz.func16, Tryz.ntmps16
  go_wp2_with fail
  refine hg1.mono ?_
  rintro e w2 ⟨rfl, hb⟩
  have hz12 := hb.size
  obtain ⟨w3, hw3⟩ : ∃ w3, w2.alloc (.cells #[.int .i64 (n : Int), .string F, .string O, .string X, .int .i64 x.b, .int .i64 x.t, .int .i64 x.d] 44) = w3 := ⟨_, rfl⟩
  have b3 : Below w2.heap.size w2 w3 := by rw [← hw3]; exact (Below.refl _ _).alloc (Nat.le_refl _) _
  have i3 : ItAt w3 w2.heap.size n F O X x.b x.t x.d := by rw [← hw3]; exact it_new w2 _ _ _ _ _ _ _
  have b13 := hb.trans (b3.mono hb.size)
  have K3 := Lib.hid (And.intro (K1.out.1.trans (b13.mono K1.out.1.size)) (And.intro (K1.out.2.below b13) i3))
  have hf3 := HFl.out w3
  obtain ⟨v0, v1, v2, v3, v4, v5, v6, _⟩ := i3.cells
  clear hg1 hb b3 b13 i3
  go_wp2_with fail
  refine hf3.mono ?_
  rintro e w4 ⟨rfl, hb⟩
  obtain ⟨w5, hw5⟩ : ∃ w5, w4.alloc (.cells #[.int .i64 rb, .int .i64 rt, .int .i64 rd] 42) = w5 := ⟨_, rfl⟩
  have b5 : Below w4.heap.size w4 w5 := by rw [← hw5]; exact (Below.refl _ _).alloc (Nat.le_refl _) _
  have t5 : TurnAt w5 w4.heap.size rb rt rd := by rw [← hw5]; exact turn_new w4 rb rt rd
  have b35 := hb.trans (b5.mono hb.size)
  have i5 := K3.out.2.2.below b35
  obtain ⟨x0, x1, x2, x3, x4, x5, x6, f0, f1, f2, f3, f4, f5, f6⟩ := i5.cells
  obtain ⟨y0, y1, y2, _⟩ := t5.cells
  obtain ⟨w6, hw6⟩ : ∃ w6, ((w5.setCell ⟨w2.heap.size, 4, none⟩ (.int .i64 rb)).setCell ⟨w2.heap.size, 5, none⟩ (.int .i64 rt)).setCell ⟨w2.heap.size, 6, none⟩ (.int .i64 rd) = w6 := ⟨_, rfl⟩
  have i6 : ItAt w6 w2.heap.size n F O X rb rt rd := by
    rw [← hw6]
    have e1 := heap_setCell_same w5 w2.heap.size 4 _ _ (.int .i64 rb) i5
    have e2 := heap_setCell_same _ w2.heap.size 5 _ _ (.int .i64 rt) e1
    exact heap_setCell_same _ w2.heap.size 6 _ _ (.int .i64 rd) e2
  have hz : w.heap.size < w2.heap.size := Nat.lt_of_lt_of_le K1.out.2.lt (by assumption)
  have K6 : Hid (Below w.heap.size w w6 ∧ ChAt w6 w.heap.size ⟨#[]⟩ ⟨#[]⟩ false) := Lib.hid (by
    have bb := K3.out.1.trans (b35.mono K3.out.1.size)
    have oo := K3.out.2.1.below b35
    rw [← hw6]
    refine ⟨((bb.setCell (p := ⟨w2.heap.size, 4, none⟩) (Nat.le_of_lt hz) _).setCell (p := ⟨w2.heap.size, 5, none⟩) (Nat.le_of_lt hz) _).setCell (p := ⟨w2.heap.size, 6, none⟩) (Nat.le_of_lt hz) _, ?_⟩
    exact ((Below.heap_setCell _ ⟨w2.heap.size, 6, none⟩ _ w.heap.size (Nat.ne_of_lt hz)).trans ((Below.heap_setCell _ ⟨w2.heap.size, 5, none⟩ _ w.heap.size (Nat.ne_of_lt hz)).trans (Below.heap_setCell w5 ⟨w2.heap.size, 4, none⟩ _ w.heap.size (Nat.ne_of_lt hz)))).trans oo)
  have hp6 := HPu.out w6 K6.out.1
  obtain ⟨z0, z1, z2, z3, z4, z5, z6, _⟩ := i6.cells
  clear hf3 hb b5 t5 b35 i5 i6 v0 v1 v2 v3 v4 v5 v6 hz
  go_wp2_with fail
  refine hp6.mono ?_
  rintro e w7 ⟨rfl, hb⟩
  have o7 := K6.out.2.below hb
  clear x0 x1 x2 x3 x4 x5 x6 f0 f1 f2 f3 f4 f5 f6 y0 y1 y2 z0 z1 z2 z3 z4 z5 z6
  obtain ⟨u0, u1, u2, f0, f1, f2⟩ := o7.cells
  have KP := Lib.hid o7
  have Fin := Lib.hid (below_putCh (K6.out.1.trans (hb.mono K6.out.1.size)) (Nat.le_refl _) K T false)
  unfold putCh at Fin
  clear hp6 hb o7
  go_wp2
  obtain ⟨g0, g1, g2, _⟩ := (KP.out.put K T false).cells
  unfold putCh at g0 g1 g2
  refine bodyPost_ret (v := .tuple #[.agg #[.string K, .string T, .bool false], .bool false, .int .i64 0]) (by simp [results, Tryz.f16, go_sem, g0, g1, g2]) rfl ?_
  exact ⟨rfl, Fin.out⟩
end Go.Proofs.YtgpdplffljidbaaGreatDoor
