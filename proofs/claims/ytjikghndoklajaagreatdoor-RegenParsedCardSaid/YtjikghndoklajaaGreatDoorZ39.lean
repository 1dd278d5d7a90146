/-
  Texts of this proof, put together: MmM, MmN, MmP, M14Z.
-/
import Derived.Test.YtjikghndoklajaaGreatDoorZ37
import Derived.Test.YtjikghndoklajaaGreatDoorZ16
import Derived.Test.YtjikghndoklajaaGreatDoorZ05
import Derived.Test.YtjikghndoklajaaGreatDoorZ17
import Derived.Test.YtjikghndoklajaaGreatDoorZ38
namespace Go.Proofs.YtjikghndoklajaaGreatDoor
open Go.RowKit

def OkP (p : TreeM) : Prop := SmallP 100000000 p ∧ p.fields.length ≤ 1000000 ∧ p.typ.2.2.length ≤ 1000000
theorem lv_shows (T B : Nat) (hB : B ≤ T) : ShowW 12 #[.pointer (some ⟨T, 0, none⟩)] leafStep (LvI T) (LvJ T B) B 1000000 List.length OkP where
  step := fun acc p => by
    unfold leafStep
    split
    · simp
    · omega
  base := fun _ _ k h => by
    rcases h with h | h
    · omega
    · exact h.1
  below := fun acc W W' h _ hb => lvi_below h hB hb
  call := fun acc p fv pv rv W h hBW ht hok hlim => mleaves1_any T B hB acc p fv pv rv W h hBW ht hok.1 hok.2 hlim
mutual
theorem fold_leaves : ∀ (p : TreeM) (acc : List TreeM), (nodesM p).foldl leafStep acc = acc ++ leavesM p
  | .mk f t b l, acc => by
    unfold nodesM leavesM
    rw [List.foldl_cons]
    cases l with
    | nil =>
      have e : leafStep acc (.mk f t b []) = acc ++ [.mk f t b []] := by
        exact if_pos rfl
      rw [e]
      rfl
    | cons p l =>
      have e : leafStep acc (.mk f t b (p :: l)) = acc := by
        exact if_neg (show ¬ (p :: l) = [] by simp)
      rw [e, foldl_leavess (p :: l) acc]
      rfl
theorem foldl_leavess : ∀ (l : List TreeM) (acc : List TreeM), (nodessM l).foldl leafStep acc = acc ++ leavessM l
  | [], acc => by
    unfold nodessM leavessM
    rw [List.foldl_nil, List.append_nil]
  | p :: l, acc => by
    unfold nodessM leavessM
    rw [List.foldl_append, fold_leaves p acc, foldl_leavess l, List.append_assoc]
end

set_option maxRecDepth 100000 in
set_option maxHeartbeats 2000000 in
theorem mleaves_any (B : Nat) (p : TreeM) (fv pv rv : Value) (w : World) (h : TreeAt w B p fv pv rv) (hB : B ≤ w.heap.size) (hc : countM p ≤ 1000000) (hok : ∀ q ∈ nodesM p, OkP q) :
    Calls Tryz.prog 7 #[partV p fv pv rv] w fun e w' => ∃ v, e = .returned v ∧ PartsP w' (fun g => w.heap.size ≤ g) v (leavesM p) ∧ Below w.heap.size w w' := by
  obtain ⟨⟨a1, n1, c1, rfl⟩, ⟨a2, n2, c2, rfl⟩, ⟨a3, n3, c3, rfl⟩⟩ := h.slices
  obtain ⟨w0, hw0⟩ : ∃ w0, w.alloc (.cells #[.slice a1 n1 c1, .string (textQ p.typ.1), .string (textQ p.typ.2.1), .slice a2 n2 c2, .string (textQ p.body), .slice a3 n3 c3] 29) = w0 := ⟨_, rfl⟩
  have b0 : Below w.heap.size w w0 := by rw [← hw0]; exact (Below.refl _ _).alloc (Nat.le_refl _) _
  have z0 : w.heap.size < w0.heap.size := by rw [← hw0]; simp
  have p0 : PrtAt w0 w.heap.size (.slice a1 n1 c1) (.string (textQ p.typ.1)) (.string (textQ p.typ.2.1)) (.slice a2 n2 c2) (.string (textQ p.body)) (.slice a3 n3 c3) := by rw [← hw0]; exact prt_new w _ _ _ _ _ _
  obtain ⟨w1, hw1⟩ : ∃ w1, w0.alloc (.cells #[.slice none 0 0] 27) = w1 := ⟨_, rfl⟩
  have b1 : Below w0.heap.size w0 w1 := by rw [← hw1]; exact (Below.refl _ _).alloc (Nat.le_refl _) _
  have x1 : LvI w0.heap.size [] w1 := ⟨.slice none 0 0, [], rfl, by rw [← hw1]; exact Boxed.new _ _ _, World.ownsRow_nil _ _ _ _, kids_nil _ _⟩
  have hwalk := mwalk_any 12 #[.pointer (some ⟨w0.heap.size, 0, none⟩)] enter_lv leafStep (LvI w0.heap.size) (LvJ w0.heap.size w.heap.size) w.heap.size 1000000 List.length OkP (lv_shows w0.heap.size w.heap.size (Nat.le_of_lt z0))
    (countM p) p (.slice a1 n1 c1) (.slice a2 n2 c2) (.slice a3 n3 c3) [] w1 (Nat.le_refl _) x1 (by have := b1.size; omega) (((h.below b0 hB).below b1 (by omega)).up hB) hok (by show 0 + _ ≤ _; omega)
  rw [fold_leaves, List.nil_append] at hwalk
  unfold partV at hwalk ⊢
  obtain ⟨X, hX⟩ : ∃ X, textQ p.typ.1 = X := ⟨_, rfl⟩
  obtain ⟨Y, hY⟩ : ∃ Y, textQ p.typ.2.1 = Y := ⟨_, rfl⟩
  obtain ⟨D, hD⟩ : ∃ D, textQ p.body = D := ⟨_, rfl⟩
  rw [hX, hY, hD] at hw0 p0 hwalk ⊢
  have q1 := p0.below b1
  obtain ⟨c0, c1', c2', c3', c4', c5', _⟩ := q1.cells
  have hmf : ∀ (fn : Fn) (first cap : Array Value) (w : World), (Instr.makeFunc fn first cap).run Tryz.prog w = .ok (.func fn first cap) w := fun _ _ _ _ => rfl
  have B1 := Lib.hid (And.intro (b0.trans (b1.mono (by omega))) z0)
  have hz1 := b1.size
  clear h hB hc p0 b0 b1 x1 hX hY hD q1 hok
  go_enter Tryz.func7, Tryz.ntmps7
  go_wp2_with fail
  refine hwalk.mono ?_
  rintro e w2 ⟨rfl, h2, hm⟩
  obtain ⟨v, kids, k1, k2, k3, k4⟩ := h2
  have c := k2.cell
  have Fin := Lib.hid (And.intro (B1.out.1.trans (hm.below (B := w.heap.size) (fun k hk => by
    rcases hk with hk | hk
    · have := B1.out.2
      omega
    · exact hk.1) (by have := B1.out.2; omega))) (show PartsP w2 (fun g => w.heap.size ≤ g) v (leavesM p) from by
    have hps := k3.parts (P := fun g => w.heap.size ≤ g) (k4.to (stay_self fun g hg _ => by have := B1.out.2; omega)) (fun g h => by have := B1.out.2; omega)
    rw [k1] at hps
    exact hps))
  obtain ⟨ao, cap, rfl⟩ := row_slice k3
  clear hwalk hm k1 k2 k3 k4
  go_wp2
  go_ret
  exact ⟨_, rfl, Fin.out.2, Fin.out.1⟩
end Go.Proofs.YtjikghndoklajaaGreatDoor
namespace Go.Proofs.YtjikghndoklajaaGreatDoor
open Go.RowKit

set_option maxRecDepth 100000 in
set_option maxHeartbeats 8000000 in
theorem munf_any (B : Nat) (p : TreeM) (fv pv rv : Value) (w : World) (h : TreeAt w B p fv pv rv) (hB : B ≤ w.heap.size) (hsm : SmallF 1000000 p.fields) (hl : p.fields.length ≤ 1000000) :
    Calls Tryz.prog 50 #[partV p fv pv rv] w fun e w' => ∃ v, e = .returned v ∧ FieldsOwn w' w.heap.size v (unfieldM p.fields) ∧ Below w.heap.size w w' := by
  obtain ⟨a1, c1, rfl, hc1, hm1⟩ := h.f.slice
  obtain ⟨_, ⟨a2, n2, c2, rfl⟩, ⟨a3, n3, c3, rfl⟩⟩ := h.slices
  unfold maxLen at hm1
  obtain ⟨n1, hn1⟩ : ∃ n1, p.fields.length = n1 := ⟨_, rfl⟩
  have Hf : Hid (∀ W i (hi : i < p.fields.length), Below w.heap.size w W → ∃ g off, a1 = some ⟨g, off, none⟩ ∧ W.cell? ⟨g, off + i * 2, none⟩ = some (.string (textQ p.fields[i].1)) ∧ W.cell? ⟨g, off + i * 2 + 1, none⟩ = some (.string (textQ p.fields[i].2))) := Lib.hid fun W i hi hW => by
    obtain ⟨ao, cap, e, _, _, h4⟩ := (h.below hW hB).f
    cases e
    obtain ⟨g, off, q1, _, q3, q4⟩ := h4 i hi
    exact ⟨g, off, q1, q3, q4⟩
  have HS := Lib.hid (And.intro hsm hn1)
  unfold partV
  rw [hn1] at hc1 hl ⊢
  obtain ⟨X, hX⟩ : ∃ X, textQ p.typ.1 = X := ⟨_, rfl⟩
  obtain ⟨Y, hY⟩ : ∃ X, textQ p.typ.2.1 = X := ⟨_, rfl⟩
  obtain ⟨D, hD⟩ : ∃ X, textQ p.body = X := ⟨_, rfl⟩
  rw [hX, hY, hD]
  obtain ⟨w1, hw1⟩ : ∃ w1, w.alloc (.cells #[.slice a1 n1 c1, .string X, .string Y, .slice a2 n2 c2, .string D, .slice a3 n3 c3] 29) = w1 := ⟨_, rfl⟩
  have b1 : Below w.heap.size w w1 := by rw [← hw1]; exact (Below.refl _ _).alloc (Nat.le_refl _) _
  have p1 : PrtAt w1 w.heap.size (.slice a1 n1 c1) (.string X) (.string Y) (.slice a2 n2 c2) (.string D) (.slice a3 n3 c3) := by rw [← hw1]; exact prt_new w _ _ _ _ _ _
  obtain ⟨y0, y1, y2, y3, y4, y5, _⟩ := p1.cells
  clear hX hY hD h hsm hn1 p1
  go_enter Tryz.func50, Tryz.ntmps50
  go_wp2
  go_loopw [3, 9] (fun lv iv wr => ∃ (i : Nat) (acc : List FieldH) (ao : Option Addr) (nn cap : Nat), i ≤ n1 ∧ iv = .int .i64 i ∧ lv = .slice ao nn cap ∧ nn ≤ i ∧ Hid (acc = unfieldM (p.fields.take i) ∧ acc.length = nn) ∧ Hid (FieldsOwn wr w.heap.size (.slice ao nn cap) acc ∧ Below w.heap.size w wr)) (fun _ iv _ => n1 - (intOf iv).toNat)
  case atStart => exact ⟨0, [], none, 0, 0, by omega, rfl, rfl, by omega, Lib.hid ⟨rfl, rfl⟩, Lib.hid ⟨World.ownsRow_nil _ _ _ _, b1⟩⟩
  case round =>
    clear y0 y1 y2 y3 y4 y5 b1
    obtain ⟨i, acc, ao, nn, cap, hi, rfl, rfl, hnn, hacc, hk⟩ := hrel
    by_cases hlt : i < n1
    · have hil : i < p.fields.length := by rw [HS.out.2]; exact hlt
      obtain ⟨g, off, rfl, x0, x1⟩ := Hf.out wr i hil hk.out.2
      obtain ⟨s1, s2⟩ := HS.out.1 _ (List.getElem_mem hil)
      have htk := unfield_take p.fields i hil
      rw [← hacc.out.1] at htk
      obtain ⟨f, hf⟩ : ∃ f, p.fields[i] = f := ⟨_, rfl⟩
      rw [hf] at x0 x1 s1 s2 htk
      obtain ⟨P, hP⟩ : ∃ P, textQ f.1 = P := ⟨_, rfl⟩
      obtain ⟨Q, hQ⟩ : ∃ Q, textQ f.2 = Q := ⟨_, rfl⟩
      rw [hP] at x0
      rw [hQ] at x1
      have sP : P.size ≤ 1000000 := by rw [← hP]; exact s1
      have sQ : Q.size ≤ 1000000 := by rw [← hQ]; exact s2
      have hPd : P.data.toList = f.1 := by rw [← hP]; rfl
      obtain ⟨w5, hw5⟩ : ∃ w5, wr.alloc (.cells #[.string P, .string Q] 38) = w5 := ⟨_, rfl⟩
      have b5 : Below wr.heap.size wr w5 := by rw [← hw5]; exact (Below.refl _ _).alloc (Nat.le_refl _) _
      have q5 : w5.heap[wr.heap.size]? = some (.cells #[.string P, .string Q] 38 (0, 0)) := by rw [← hw5]; exact heap_alloc_new wr _
      have z5 : wr.heap.size < w5.heap.size := by rw [← hw5]; simp
      have K5 : Hid (∀ W, Below w5.heap.size w5 W → (W.cell? ⟨wr.heap.size, 0, none⟩ = some (.string P) ∧ W.cell? ⟨wr.heap.size, 1, none⟩ = some (.string Q)) ∧ FieldsOwn W w.heap.size (.slice ao nn cap) acc ∧ Below w.heap.size w W) := Lib.hid fun W hW => by
        have e1 := (hW.block wr.heap.size z5).trans q5
        have hbw : Below wr.heap.size wr W := b5.trans (hW.mono b5.size)
        exact ⟨⟨Lib.cell_of_heap e1 0, Lib.cell_of_heap e1 1⟩, ownsRow_below4 hk.out.1 hbw, hk.out.2.trans (hbw.mono hk.out.2.size)⟩
      have h1 := hsame_any P ⟨#[67, 111, 110, 116, 101, 110, 116, 45, 84, 121, 112, 101]⟩ w5 sP (by decide)
      rw [hPd, show (⟨#[67, 111, 110, 116, 101, 110, 116, 45, 84, 121, 112, 101]⟩ : ByteArray).data.toList = ctM from rfl] at h1
      have h2 : Hid (∀ W, Calls Tryz.prog 40 #[.string P, .string ⟨#[67, 111, 110, 116, 101, 110, 116, 45, 84, 114, 97, 110, 115, 102, 101, 114, 45, 69, 110, 99, 111, 100, 105, 110, 103]⟩] W fun e w' => e = .returned (.bool (sameH f.1 cteM)) ∧ Below W.heap.size W w') := Lib.hid fun W => by
        have := hsame_any P ⟨#[67, 111, 110, 116, 101, 110, 116, 45, 84, 114, 97, 110, 115, 102, 101, 114, 45, 69, 110, 99, 111, 100, 105, 110, 103]⟩ W sP (by decide)
        rw [hPd, show (⟨#[67, 111, 110, 116, 101, 110, 116, 45, 84, 114, 97, 110, 115, 102, 101, 114, 45, 69, 110, 99, 111, 100, 105, 110, 103]⟩ : ByteArray).data.toList = cteM from rfl] at this
        exact this
      obtain ⟨⟨k0, k1⟩, _⟩ := K5.out w5 (Below.refl _ _)
      obtain ⟨c1b, hc1b⟩ : ∃ b, sameH f.1 ctM = b := ⟨_, rfl⟩
      obtain ⟨c2b, hc2b⟩ : ∃ b, sameH f.1 cteM = b := ⟨_, rfl⟩
      rw [hc1b] at h1 htk
      rw [hc2b] at h2 htk
      have HP := Lib.hid (And.intro hP hQ)
      have HCF : Hid (∀ W, Calls Tryz.prog 21 #[.agg #[.string P, .string Q]] W fun e w' => e = .returned (.agg #[.string P, .string Q]) ∧ Below W.heap.size W w') := Lib.hid fun W => mcopyf_any P Q W (by omega) (by omega)
      clear hf hP hQ hPd b5 q5 hil s1 s2 hc1b hc2b
      cases c1b with
      | true =>
        have Htk := Lib.hid (show unfieldM (p.fields.take (i + 1)) = acc by rw [htk]; simp)
        clear htk h2
        go_wp2_with (go_at_call 40
                     refine h1.mono ?_
                     rintro e w6 ⟨rfl, hb⟩
                     have K6 := Lib.hid (K5.out w6 hb)
                     clear hb h1)
        go_roundw
        case rel => exact ⟨i + 1, acc, ao, nn, cap, by omega, by go_num, rfl, by omega, Lib.hid ⟨Htk.out.symm, hacc.out.2⟩, Lib.hid K6.out.2⟩
        case measure => simp [intOf]; omega
      | false =>
        cases c2b with
        | true =>
          have Htk := Lib.hid (show unfieldM (p.fields.take (i + 1)) = acc by rw [htk]; simp)
          clear htk
          go_wp2_with (go_at_call 40
                       refine h1.mono ?_
                       rintro e w6 ⟨rfl, hb⟩
                       have K6 := Lib.hid (And.intro hb (K5.out w6 hb))
                       obtain ⟨m0, m1⟩ := K6.out.2.1
                       clear hb h1
                       refine HeldW.of ?_)
          unfold HeldW
          go_wp2_with (go_at_call 40
                       refine (h2.out _).mono ?_
                       rintro e w7 ⟨rfl, hb⟩
                       have K7 := Lib.hid (K5.out w7 (K6.out.1.trans (hb.mono K6.out.1.size)))
                       clear hb h2)
          go_roundw
          case rel => exact ⟨i + 1, acc, ao, nn, cap, by omega, by go_num, rfl, by omega, Lib.hid ⟨Htk.out.symm, hacc.out.2⟩, Lib.hid K7.out.2⟩
          case measure => simp [intOf]; omega
        | false =>
          have Htk := Lib.hid (show unfieldM (p.fields.take (i + 1)) = acc ++ [f] by rw [htk]; rfl)
          clear htk
          go_wp2_with (go_at_call 40
                       refine h1.mono ?_
                       rintro e w6 ⟨rfl, hb⟩
                       have K6 := Lib.hid (And.intro hb (K5.out w6 hb))
                       obtain ⟨m0, m1⟩ := K6.out.2.1
                       clear hb h1
                       refine HeldW.of ?_)
          unfold HeldW
          go_wp2_with (go_at_call 40
                       refine (h2.out _).mono ?_
                       rintro e w7 ⟨rfl, hb⟩
                       have K7 := Lib.hid (And.intro (K6.out.1.trans (hb.mono K6.out.1.size)) (K5.out w7 (K6.out.1.trans (hb.mono K6.out.1.size))))
                       obtain ⟨n0, n1'⟩ := K7.out.2.1
                       clear hb h2
                       refine HeldW.of ?_)
          unfold HeldW
          go_wp2_with (go_at_call 21
                       refine (HCF.out _).mono ?_
                       rintro e w8 ⟨rfl, hb⟩
                       obtain ⟨w9, hw9⟩ : ∃ w9, w8.alloc (.cells #[.string P, .string Q] 38) = w9 := ⟨_, rfl⟩
                       have b9 : Below w8.heap.size w8 w9 := by rw [← hw9]; exact (Below.refl _ _).alloc (Nat.le_refl _) _
                       have q9 : w9.heap[w8.heap.size]? = some (.cells #[.string P, .string Q] 38 (0, 0)) := by rw [← hw9]; exact heap_alloc_new w8 _
                       have hb59 : Below w5.heap.size w5 w9 := K7.out.1.trans ((hb.mono K7.out.1.size).trans (b9.mono (Nat.le_trans K7.out.1.size hb.size)))
                       have K9 := Lib.hid (And.intro (K5.out w9 hb59) q9)
                       clear hb b9 q9 hb59
                       refine HeldW.of ?_)
          unfold HeldW
          go_wp2_with (at_builtin; refine HeldW.of ?_)
          unfold HeldW
          have hal : acc.length ≤ 10000000 := by have := hacc.out.2; omega
          have hq0 := Lib.cell_of_heap K9.out.2 0
          have hq1 := Lib.cell_of_heap K9.out.2 1
          have hBw := K9.out.1.2.2.size
          refine wpList_append_field rfl _ _ rfl w.heap.size (.slice ao nn cap) acc f rfl K9.out.1.2.1 hBw hal w8.heap.size 1 rfl (by rw [HP.out.1]; exact hq0) (by rw [HP.out.2]; exact hq1) ?_
          intro v' w10 ho hg
          obtain ⟨ao', cap', rfl⟩ := row_slice ho
          have hll : (acc ++ [f]).length = nn + 1 := by rw [List.length_append, hacc.out.2]; rfl
          have hF := K9.out.1.2.2.grown hg hBw (fun q hq => (row_block K9.out.1.2.1 hq).1)
          rw [hll] at ho
          have A10 := Lib.hid (And.intro ho (And.intro hF hll))
          clear ho hg hF hq0 hq1 K9 m0 m1 n0 n1' hal
          rw [hll]
          clear hll
          go_wp2
          go_roundw
          case rel => exact ⟨i + 1, acc ++ [f], ao', nn + 1, cap', by omega, by go_num, rfl, by omega, Lib.hid ⟨Htk.out.symm, A10.out.2.2⟩, Lib.hid ⟨A10.out.1, A10.out.2.1⟩⟩
          case measure => simp [intOf]; omega
    · obtain rfl : i = n1 := by omega
      have Fin : Hid (FieldsOwn wr w.heap.size (.slice ao nn cap) (unfieldM p.fields) ∧ Below w.heap.size w wr) := Lib.hid (by
        have e : p.fields.take i = p.fields := List.take_of_length_le (by rw [HS.out.2]; exact Nat.le_refl _)
        rw [← e, ← hacc.out.1]
        exact hk.out)
      clear hacc hk
      go_wp2
      go_ret
      exact ⟨_, rfl, Fin.out.1, Fin.out.2⟩
end Go.Proofs.YtjikghndoklajaaGreatDoor
namespace Go.Proofs.YtjikghndoklajaaGreatDoor

theorem leaf_lenM {c : Nat} {raw b : TextH} (h : leafM c raw = some b) : b.length ≤ raw.length := by
  unfold leafM at h
  split at h
  · cases h
    exact Nat.le_refl _
  split at h
  · have e := congrArg List.length (fold_unfold h)
    rw [fold_len _ _ rfl, enc_len] at e
    omega
  split at h
  · have e := encQ_dec h
    have := encQ_ge b
    rw [e] at this
    exact this
  · cases h
structure LimP (M : Nat) (p : TreeM) : Prop where
  fl : p.fields.length ≤ 64
  ff : ∀ f ∈ p.fields, f.1.length ≤ M ∧ f.2.length ≤ M
  ty : rightC p.typ = true
  bd : p.body.length ≤ M
theorem LimP.up {M N : Nat} {p : TreeM} (h : LimP M p) (hn : M ≤ N) : LimP N p :=
  ⟨h.fl, fun f hf => by have := h.ff f hf; omega, h.ty, Nat.le_trans h.bd hn⟩
theorem LimP.ok {M : Nat} {p : TreeM} (h : LimP M p) (hM : M ≤ 1000000) : OkP p := by
  obtain ⟨r1, r2, r3, r4⟩ := right_parts h.ty
  have := h.bd
  refine ⟨⟨fun f hf => ?_, ⟨by omega, by omega, fun x hx => ?_⟩, by omega⟩, by have := h.fl; omega, by omega⟩
  · have := h.ff f hf
    omega
  · have := r4 x hx
    omega
theorem divtext_mem {mk t : TextH} : ∀ {l : List TextH}, t ∈ l → t.length ≤ (divTextM mk l).length
  | u :: l, h => by
    unfold divTextM
    simp only [List.length_append, List.length_cons]
    rcases List.mem_cons.1 h with rfl | h
    · omega
    · have := divtext_mem (mk := mk) h
      omega
theorem div_mem {mk raw : TextH} {l : List TextH} (h : divM mk raw = some l) {t : TextH} (ht : t ∈ l) : t.length ≤ raw.length := by
  unfold divM at h
  split at h
  · rename_i hp
    obtain ⟨u, hu⟩ := List.isPrefixOf_iff_prefix.1 hp
    have hd : raw.drop mk.length = u := by rw [← hu]; exact List.drop_left
    rw [hd] at h
    cases hn : nextM mk u with
    | none =>
      rw [hn] at h
      cases h
    | some x =>
      rw [hn] at h
      have e := (divn_some _ _ _ h).1
      have := divtext_mem (mk := mk) ht
      rw [← e, hu] at this
      exact this
  · cases h
theorem typ_right {l : List FieldH} {t : TypeC} (h : typM l = some t) : rightC t = true := by
  unfold typM at h
  cases hg : getH l ctM with
  | none =>
    rw [hg] at h
    obtain rfl := Option.some.inj h
    decide +kernel
  | some b =>
    rw [hg] at h
    exact parse_right h
theorem all_mem {f : TextH → Nat → TreeM × Nat × Int} : ∀ {l : List TextH} {n : Nat}, (allM f l n).2.2 = 0 → ∀ q ∈ (allM f l n).1, ∃ t ∈ l, ∃ k m, f t k = (q, m, 0)
  | [], n, _, q, hq => by cases hq
  | t :: l, n, h, q, hq => by
    unfold allM at h hq
    split at h
    · rename_i h1
      rw [if_pos h1] at hq
      rcases List.mem_cons.1 hq with rfl | hq
      · refine ⟨t, List.mem_cons_self .., n, (f t n).2.1, ?_⟩
        rw [← h1]
      · obtain ⟨u, hu, k, m, e⟩ := all_mem h q hq
        exact ⟨u, List.mem_cons_of_mem _ hu, k, m, e⟩
    · rename_i h1
      exact absurd h h1
theorem nodess_of {l : List TreeM} {q : TreeM} (h : q ∈ nodessM l) : ∃ p ∈ l, q ∈ nodesM p := by
  induction l with
  | nil => cases h
  | cons p l ih =>
    rcases List.mem_append.1 (show q ∈ nodesM p ++ nodessM l from h) with h | h
    · exact ⟨p, List.mem_cons_self .., h⟩
    · obtain ⟨r, hr, hq⟩ := ih h
      exact ⟨r, List.mem_cons_of_mem _ hr, hq⟩
theorem part_lim : ∀ (d : Nat) (s : TextH) (n : Nat) (p : TreeM) (m : Nat), partM d s n = (p, m, 0) → ∀ q ∈ nodesM p, LimP s.length q := by
  intro d
  have main : ∀ (sub : Option (TextH → Nat → TreeM × Nat × Int)), (∀ f, sub = some f → ∀ s n p m, f s n = (p, m, 0) → ∀ q ∈ nodesM p, LimP s.length q) →
      ∀ (s : TextH) (n : Nat) (p : TreeM) (m : Nat), stepM sub s n = (p, m, 0) → ∀ q ∈ nodesM p, LimP s.length q := by
    intro sub hsub s n p m h q hq
    obtain ⟨_, he, t, ht, hw⟩ := step_ok h
    obtain ⟨s1, s2⟩ := parse_small s
    obtain ⟨_, _, fs, _, _, _, _, g6, g7⟩ := good_parts he
    have hfl : (parseH s).1.1.length ≤ 64 := by rw [g7]; exact g6
    rcases hw with ⟨_, _, b, hb, rfl⟩ | ⟨_, l, f, hd, hf, ha, rfl, _⟩
    · have hq : q ∈ [TreeM.mk (parseH s).1.1 t b []] := hq
      rw [List.mem_singleton] at hq
      subst hq
      exact ⟨hfl, s1, typ_right ht, Nat.le_trans (leaf_lenM hb) s2⟩
    · rcases List.mem_cons.1 (show q ∈ TreeM.mk (parseH s).1.1 t [] (allM f l (n + 1)).1 :: nodessM (allM f l (n + 1)).1 from hq) with rfl | hq
      · exact ⟨hfl, s1, typ_right ht, Nat.zero_le _⟩
      · obtain ⟨r, hr, hq⟩ := nodess_of hq
        obtain ⟨u, hu, k, m', e⟩ := all_mem ha r hr
        refine (hsub f hf u k r m' e q hq).up ?_
        have := div_mem hd hu
        omega
  induction d with
  | zero => exact main none (fun f h => by cases h)
  | succ d ih => exact main (some (partM d)) (fun f h => by cases h; exact ih)
theorem tree_lim {s : TextH} {p : TreeM} (h : parseM s = (p, 0)) : s.length ≤ 16384 ∧ ∀ q ∈ nodesM p, LimP s.length q := by
  obtain ⟨hs, p', m, e1, e2, _⟩ := part_parts (s := s) (by rw [h])
  rw [h] at e2
  cases e2
  exact ⟨hs, part_lim 4 s 0 p m e1⟩
theorem tree_ok {s : TextH} {p : TreeM} (h : parseM s = (p, 0)) : ∀ q ∈ nodesM p, OkP q := fun q hq => by
  obtain ⟨h1, h2⟩ := tree_lim h
  exact (h2 q hq).ok (by omega)
end Go.Proofs.YtjikghndoklajaaGreatDoor
namespace Go.Proofs.YtjikghndoklajaaGreatDoor

theorem heads_len : ∀ l : List FieldH, (∀ f ∈ l, f.1.length ≤ 900 ∧ f.2.length ≤ 100000) → (endH (l.flatMap linesH)).length ≤ 310000 * l.length
  | [], _ => by simp [endH]
  | f :: l, h => by
    have ih := heads_len l (fun g hg => h g (List.mem_cons_of_mem _ hg))
    have hf := h f (List.mem_cons_self ..)
    have h3 := field_len f hf.1
    rw [List.flatMap_cons, end_append, List.length_append, List.length_cons]
    omega
theorem print_lim {l : List FieldH} (hs : SmallF 100000 l) : (printH l).1.length ≤ 100000000 := by
  unfold printH
  by_cases h1 : l.all rightB = false
  · rw [if_pos h1]
    simp
  · rw [if_neg h1]
    by_cases h2 : 64 < l.length
    · rw [if_pos h2]
      simp
    · rw [if_neg h2]
      by_cases h3 : longH (l.flatMap linesH) = true
      · rw [if_pos h3]
        simp
      · rw [if_neg h3]
        have hr : ∀ f ∈ l, f.1.length ≤ 900 ∧ f.2.length ≤ 100000 := fun f hf => by
          have := ((right_iff f).1 (List.all_eq_true.1 ((Bool.not_eq_false _).mp h1) f hf)).n64
          exact ⟨by omega, (hs f hf).2⟩
        have := heads_len l hr
        show (headerH l).length ≤ _
        unfold headerH
        rw [List.length_append]
        simp
        omega
theorem unfield_small {n : Nat} {l more : List FieldH} (h : SmallF n l) (hm : SmallF 100000 more) (hn : n ≤ 100000) : SmallF 100000 (unfieldM l ++ more) := fun f hf => by
  rcases List.mem_append.1 hf with hf | hf
  · have := h f (List.mem_filter.1 hf).1
    omega
  · exact hm f hf
theorem typ_small {t : TypeC} (h : rightC t = true) : SmallF 100000 [(ctM, textC t)] := fun f hf => by
  rw [List.mem_singleton.1 hf]
  have := text_lenC h
  have e : ctM.length = 12 := rfl
  exact ⟨by show ctM.length ≤ _; omega, by show (textC t).length ≤ _; omega⟩
theorem typs_small {t : TypeC} (h : rightC t = true) : SmallF 100000 [(ctM, textC t), (cteM, codR t)] := fun f hf => by
  rcases List.mem_cons.1 hf with rfl | hf
  · exact typ_small h _ (List.mem_singleton.2 rfl)
  · rw [List.mem_singleton.1 hf]
    refine ⟨by show cteM.length ≤ _; decide, ?_⟩
    show (codR t).length ≤ _
    unfold codR
    split <;> decide
theorem raw_len (t : TypeC) {b : TextH} (h : b.length ≤ 16384) : (rawR t b).length ≤ 10000000 := by
  unfold rawR
  split
  · have := encQ_len b
    omega
  · have e := fold_len (encB b) _ rfl
    rw [enc_len] at e
    omega
end Go.Proofs.YtjikghndoklajaaGreatDoor
