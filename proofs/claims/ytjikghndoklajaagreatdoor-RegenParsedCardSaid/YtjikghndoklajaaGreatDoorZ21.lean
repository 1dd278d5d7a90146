/-
  Texts of this proof, put together: CtI.
-/
import Derived.Test.YtjikghndoklajaaGreatDoorZ20
namespace Go.Proofs.YtjikghndoklajaaGreatDoor
open Go.RowKit

theorem value_len {s v u : TextA} (h : valueC s = some (v, u)) : u.length ≤ s.length ∧ v.length ≤ s.length := by
  unfold valueC at h
  split at h
  · rename_i r hr
    have h1 := hear_len _ _ _ _ _ h
    have h2 := hear_word _ _ _ _ _ h
    have := congrArg List.length (cut_lenA hr)
    simp at this h2
    omega
  · split at h
    · cases h
      exact ⟨drop_len tokC s, take_le tokC s⟩
    · cases h
theorem param_len {s u : TextA} {p : ParC} (h : paramC s = some (p, u)) : u.length ≤ s.length ∧ p.1.length ≤ s.length ∧ p.2.length ≤ s.length := by
  unfold paramC at h
  split at h
  · cases h
  · rename_i r hr
    split at h
    · cases h
    · rename_i v t ht
      cases h
      have h1 := value_len ht
      have := congrArg List.length (cut_lenA hr)
      have h2 := drop_len inNameC s
      rw [List.length_cons] at this
      have h3 := take_le inNameC s
      have h4 : (wordC s).length ≤ s.length := by
        unfold wordC
        rw [List.length_map]
        exact h3
      refine ⟨by omega, h4, ?_⟩
      show v.length ≤ _
      omega
def RtK (T : Nat) (w : World) (X Y : ByteArray) (ao : Option Addr) (n cap : Nat) (W : World) : Prop := TypAt W w.heap.size X Y ao n cap ∧ TakeK T w.heap.size w W
section
variable {T n cap : Nat} {w W W' : World} {X Y : ByteArray} {ao : Option Addr}
theorem RtK.step (h : RtK T w X Y ao n cap W) (hT : T < w.heap.size) (k : TakeK T W.heap.size W W') : RtK T w X Y ao n cap W' := ⟨k.heap h.1 h.1.lt (by omega), h.2.trans (k.mono h.2.size)⟩
theorem RtK.main (h : RtK T w X Y ao n cap W) (X' : ByteArray) : RtK T w X' Y ao n cap (W.setCell ⟨w.heap.size, 0, none⟩ (.string X')) := ⟨h.1.main X', h.2.put (p := ⟨w.heap.size, 0, none⟩) (Nat.le_refl _) _⟩
theorem RtK.sub (h : RtK T w X Y ao n cap W) (Y' : ByteArray) : RtK T w X Y' ao n cap (W.setCell ⟨w.heap.size, 1, none⟩ (.string Y')) := ⟨h.1.sub Y', h.2.put (p := ⟨w.heap.size, 1, none⟩) (Nat.le_refl _) _⟩
theorem RtK.pars (h : RtK T w X Y ao n cap W) (ao' : Option Addr) (n' cap' : Nat) : RtK T w X Y ao' n' cap' (W.setCell ⟨w.heap.size, 2, none⟩ (.slice ao' n' cap')) := ⟨h.1.pars ao' n' cap', h.2.put (p := ⟨w.heap.size, 2, none⟩) (Nat.le_refl _) _⟩
theorem RtK.put (h : RtK T w X Y ao n cap W) (X' Y' : ByteArray) (ao' : Option Addr) (n' cap' : Nat) : RtK T w X' Y' ao' n' cap' (((W.setCell ⟨w.heap.size, 0, none⟩ (.string X')).setCell ⟨w.heap.size, 1, none⟩ (.string Y')).setCell ⟨w.heap.size, 2, none⟩ (.slice ao' n' cap')) :=
  ⟨h.1.put X' Y' ao' n' cap', ((h.2.put (p := ⟨w.heap.size, 0, none⟩) (Nat.le_refl _) _).put (p := ⟨w.heap.size, 1, none⟩) (Nat.le_refl _) _).put (p := ⟨w.heap.size, 2, none⟩) (Nat.le_refl _) _⟩
theorem own_put {B : Nat} {v : Value} {l : List ParC} (h : ParsOwn W B v l) (hB : w.heap.size < B) (a b c : Value) : ParsOwn (((W.setCell ⟨w.heap.size, 0, none⟩ a).setCell ⟨w.heap.size, 1, none⟩ b).setCell ⟨w.heap.size, 2, none⟩ c) B v l :=
  ownsRow_setCell_below (ownsRow_setCell_below (ownsRow_setCell_below h (by exact hB) _) (by exact hB) _) (by exact hB) _
theorem own_take {B : Nat} {v : Value} {l : List ParC} (h : ParsOwn W B v l) (hT : T < B) (k : TakeK T W.heap.size W W') : ParsOwn W' B v l :=
  ⟨h.1, h.2.imp id fun ⟨g, cap, cur, h1, h2, h3, h4⟩ => ⟨g, cap, cur, h1, h2, k.heap h3 (heap_lt h3) (by omega), h4⟩⟩
theorem own_below {B : Nat} {v : Value} {l : List ParC} (h : ParsOwn W B v l) (hb : Below W.heap.size W W') : ParsOwn W' B v l :=
  ⟨h.1, h.2.imp id fun ⟨g, cap, cur, h1, h2, h3, h4⟩ => ⟨g, cap, cur, h1, h2, (hb.block g (heap_lt h3)).trans h3, h4⟩⟩
end
theorem own_low {w : World} {B B' : Nat} {v : Value} {l : List ParC} (h : ParsOwn w B v l) (hB : B' ≤ B) : ParsOwn w B' v l :=
  ⟨h.1, h.2.imp id fun ⟨g, cap, cur, h1, h2, h3⟩ => ⟨g, cap, cur, h1, Nat.le_trans hB h2, h3⟩⟩
theorem own_slice {w : World} {B : Nat} {v : Value} {l : List ParC} (h : ParsOwn w B v l) : ∃ ao cap, v = .slice ao l.length cap := by
  rcases h.2 with ⟨rfl, h0⟩ | ⟨g, cap, cur, rfl, _⟩
  · exact ⟨none, 0, by rw [h0]⟩
  · exact ⟨_, _, rfl⟩
def sizeAt (T : Nat) (w : World) : Nat := match w.cell? ⟨T, 0, none⟩ with
  | some (.string s) => s.size
  | _ => 0
theorem size_at {T : Nat} {w : World} {s : TextA} (h : Boxed w T 9 (.string (textQ s))) : sizeAt T w = s.length := by
  unfold sizeAt
  rw [h.cell]
  rfl
def TookT (o : Option TypeC) (_T B : Nat) (e : Ending) (w' : World) : Prop := match o with
  | none => ∃ X Y ao n cap, e = .returned (.tuple #[.agg #[.string X, .string Y, .slice ao n cap], .bool false])
  | some t => ∃ ao cap, e = .returned (.tuple #[.agg #[.string (textQ t.1), .string (textQ t.2.1), .slice ao t.2.2.length cap], .bool true]) ∧ ParsOwn w' B (.slice ao t.2.2.length cap) t.2.2

def RtS (T : Nat) (w : World) (X Y : ByteArray) (s : TextA) (l : List ParC) (ao : Option Addr) (cap : Nat) (W : World) : Prop :=
  RtK T w X Y ao l.length cap W ∧ Boxed W T 9 (.string (textQ s)) ∧ ParsOwn W (w.heap.size + 1) (.slice ao l.length cap) l

def RtJ (T : Nat) (w : World) (X Y : ByteArray) (ao : Option Addr) (k cap : Nat) (l : List ParC) (W : World) : Prop :=
  RtK T w X Y ao k cap W ∧ ParsOwn W (w.heap.size + 1) (.slice ao l.length cap) l
set_option maxRecDepth 100000 in
set_option maxHeartbeats 4000000 in
theorem crdtype_any (T : Nat) (s : TextA) (w : World) (hT : Boxed w T 9 (.string (textQ s))) (hs : s.length ≤ 10000000) :
    Calls Tryz.prog 65 #[takeV T] w fun e w' => TookT (readC s) T (w.heap.size + 1) e w' ∧ TakeK T w.heap.size w w' := by
  have hTl := hT.lt
  have hgp : ∀ (u : TextA), u.length ≤ 10000000 → Hid (∀ W, Boxed W T 9 (.string (textQ u)) → Calls Tryz.prog 103 #[.func (.func 98) #[] #[], .pointer (some ⟨T, 0, none⟩)] W fun e w' => (∃ X, e = .returned (.string X)) ∧ Boxed w' T 9 (.string (textQ (u.dropWhile gapC))) ∧ TakeK T W.heap.size W w') := fun u hu => Lib.hid fun W hW =>
    (ctake_pure 98 enter_gap gapC ask_gap T u W hW (by omega)).mono fun e w' ⟨h1, h2⟩ => ⟨⟨_, h1⟩, h2⟩
  have hnm : ∀ (u : TextA), u.length ≤ 10000000 → Hid (∀ W, Boxed W T 9 (.string (textQ u)) → Calls Tryz.prog 99 #[takeV T] W fun e w' => e = .returned (.string (textQ (wordC u))) ∧ Boxed w' T 9 (.string (textQ (u.dropWhile inNameC))) ∧ TakeK T W.heap.size W w') := fun u hu => Lib.hid fun W hW => crdname_any T u W hW (by omega)
  obtain ⟨s1, hs1⟩ : ∃ u, s.dropWhile gapC = u := ⟨_, rfl⟩
  obtain ⟨s2, hs2⟩ : ∃ u, s1.dropWhile inNameC = u := ⟨_, rfl⟩
  have d1 := drop_len gapC s
  have d2 := drop_len inNameC s1
  have g1 := hgp s (by omega)
  have g2 := hnm s1 (by rw [← hs1]; omega)
  rw [hs1] at d1 g1
  rw [hs2] at d2 g2
  unfold readC
  rw [hs1, hs2]
  obtain ⟨M, hM⟩ : ∃ M, textQ (wordC s1) = M := ⟨_, rfl⟩
  rw [hM] at g2
  obtain ⟨w0, hw0⟩ : ∃ w0, w.alloc (.cells #[.string ⟨#[]⟩, .string ⟨#[]⟩, .slice none 0 0] 26) = w0 := ⟨_, rfl⟩
  have l0 : Below w.heap.size w w0 := by rw [← hw0]; exact (Below.refl _ _).alloc (Nat.le_refl _) _
  have k0 : RtK T w ⟨#[]⟩ ⟨#[]⟩ none 0 0 w0 := ⟨by rw [← hw0]; exact typ_new w _ _ _ _ _, .of l0⟩
  have h1 := g1.out w0 (boxed_below hT l0)
  have K0 := Lib.hid k0
  have h3 : Hid (∀ W, Boxed W T 9 (.string (textQ s2)) → Calls Tryz.prog 100 #[takeV T, .int .u8 47] W fun e w' => e = .returned (.bool (cutA 47 s2).isSome) ∧ Boxed w' T 9 (.string (textQ ((cutA 47 s2).getD s2))) ∧ TakeK T W.heap.size W w') := Lib.hid fun W hW => cone_any 47 T s2 W hW (by omega)
  clear hT hs1 hs2 l0 k0 g1
  cases hq : cutA 47 s2 with
  | none =>
    rw [hq] at h3
    have h3 : Hid (∀ W, Boxed W T 9 (.string (textQ s2)) → Calls Tryz.prog 100 #[takeV T, .int .u8 47] W fun e w' => e = .returned (.bool false) ∧ Boxed w' T 9 (.string (textQ s2)) ∧ TakeK T W.heap.size W w') := h3
    show Calls _ _ _ _ fun e w' => TookT none T (w.heap.size + 1) e w' ∧ _
    have het := enter_take
    clear hq hM hgp hnm
    unfold takeV at g2 h3 ⊢
    go_enter Tryz.func65, Tryz.ntmps65
    go_wp2_with fail
    refine h1.mono ?_
    rintro e w1 ⟨⟨X1, rfl⟩, q1, q2⟩
    have k1 := Lib.hid (K0.out.step hTl q2)
    have h21 := g2.out w1 q1
    clear h1 g2 q1 q2 K0
    go_wp2_with fail
    refine h21.mono ?_
    rintro e w2 ⟨rfl, q1, q2⟩
    have k2 := k1.out.step hTl q2
    obtain ⟨c0, c1, c2, c3, c4, c5⟩ := k2.1.cells
    obtain ⟨wa, hwa⟩ : ∃ wa, w2.setCell ⟨w.heap.size, 0, none⟩ (.string M) = wa := ⟨_, rfl⟩
    have h31 := h3.out wa (by rw [← hwa]; exact boxed_set q1 (by show w.heap.size ≠ T; omega) _)
    have ka : RtK T w M ⟨#[]⟩ none 0 0 wa := by rw [← hwa]; exact k2.main M
    have Ka := Lib.hid ka
    clear h21 q1 q2 k1 k2 ka h3
    go_wp2_with fail
    refine h31.mono ?_
    rintro e w3 ⟨rfl, q1, q2⟩
    have k3 := Ka.out.step hTl q2
    obtain ⟨c0, c1, c2, c3, c4, c5⟩ := k3.1.cells
    have kz := k3.put ⟨#[]⟩ ⟨#[]⟩ none 0 0
    obtain ⟨k0, k1, k2, _⟩ := kz.1.cells
    have Q := Lib.hid kz.2
    clear h31 q1 q2 k3 kz Ka
    go_wp2
    refine bodyPost_ret (v := .tuple #[.agg #[.string ⟨#[]⟩, .string ⟨#[]⟩, .slice none 0 0], .bool false]) (by simp [results, Tryz.f65, go_sem, k0, k1, k2]) rfl ⟨⟨_, _, _, _, _, rfl⟩, Q.out⟩
  | some r =>
    rw [hq] at h3
    have h3 : Hid (∀ W, Boxed W T 9 (.string (textQ s2)) → Calls Tryz.prog 100 #[takeV T, .int .u8 47] W fun e w' => e = .returned (.bool true) ∧ Boxed w' T 9 (.string (textQ r)) ∧ TakeK T W.heap.size W w') := h3
    have hrl : r.length ≤ s.length := by
      have := congrArg List.length (cut_lenA hq)
      rw [List.length_cons] at this
      omega
    obtain ⟨r1, hr1⟩ : ∃ u, r.dropWhile inNameC = u := ⟨_, rfl⟩
    obtain ⟨r2, hr2⟩ : ∃ u, r1.dropWhile gapC = u := ⟨_, rfl⟩
    have d3 := drop_len inNameC r
    have d4 := drop_len gapC r1
    have g4 := hnm r (by omega)
    have g5 := hgp r1 (by rw [← hr1]; omega)
    rw [hr1] at d3 g4
    rw [hr2] at d4 g5
    obtain ⟨S, hS⟩ : ∃ S, textQ (wordC r) = S := ⟨_, rfl⟩
    rw [hS] at g4
    have hn0 : r2.length < s.length + 1 := by omega
    obtain ⟨F, hF⟩ : ∃ F, moreC (s.length + 1) [] r2 = F := ⟨_, rfl⟩
    show Calls _ _ _ _ fun e w' => TookT (match moreC (s.length + 1) [] (List.dropWhile gapC (List.dropWhile inNameC r)) with | none => none | some l => some (wordC s1, wordC r, l)) T (w.heap.size + 1) e w' ∧ _
    rw [hr1, hr2, hF]
    have HM := Lib.hid (And.intro hM hS)
    have HF := Lib.hid hF
    have hr2l : r2.length ≤ 10000000 := by omega
    have hN : Hid (∀ e w', (∃ X Y ao n cap, e = .returned (.tuple #[.agg #[.string X, .string Y, .slice ao n cap], .bool false])) → F = none → TookT (match F with | none => none | some l => some (wordC s1, wordC r, l)) T (w.heap.size + 1) e w') := Lib.hid fun e w' he hn => by
      rw [hn]
      exact he
    have hY : Hid (∀ e w' l ao cap, F = some l → e = .returned (.tuple #[.agg #[.string M, .string S, .slice ao l.length cap], .bool true]) → ParsOwn w' (w.heap.size + 1) (.slice ao l.length cap) l → TookT (match F with | none => none | some l => some (wordC s1, wordC r, l)) T (w.heap.size + 1) e w') := Lib.hid fun e w' l ao cap hn he ho => by
      rw [hn]
      exact ⟨ao, cap, by rw [he, ← hM, ← hS], ho⟩
    obtain ⟨P, hP⟩ : ∃ P : Ending → World → Prop, TookT (match F with | none => none | some l => some (wordC s1, wordC r, l)) T (w.heap.size + 1) = P := ⟨_, rfl⟩
    rw [hP] at hN hY ⊢
    have het := enter_take
    clear hq hM hS hF hr1 hr2 hnm hP hrl d3 d4 d1 d2
    unfold takeV at g2 h3 g4 ⊢
    go_enter Tryz.func65, Tryz.ntmps65
    go_wp2_with fail
    refine h1.mono ?_
    rintro e w1 ⟨⟨X1, rfl⟩, q1, q2⟩
    have k1 := Lib.hid (K0.out.step hTl q2)
    have h21 := g2.out w1 q1
    clear h1 g2 q1 q2 K0
    go_wp2_with fail
    refine h21.mono ?_
    rintro e w2 ⟨rfl, q1, q2⟩
    have k2 := k1.out.step hTl q2
    obtain ⟨c0, c1, c2, c3, c4, c5⟩ := k2.1.cells
    obtain ⟨wa, hwa⟩ : ∃ wa, w2.setCell ⟨w.heap.size, 0, none⟩ (.string M) = wa := ⟨_, rfl⟩
    have h31 := h3.out wa (by rw [← hwa]; exact boxed_set q1 (by show w.heap.size ≠ T; omega) _)
    have ka : RtK T w M ⟨#[]⟩ none 0 0 wa := by rw [← hwa]; exact k2.main M
    have Ka := Lib.hid ka
    clear h21 q1 q2 k1 k2 ka h3
    go_wp2_with fail
    refine h31.mono ?_
    rintro e w3 ⟨rfl, q1, q2⟩
    have k3 := Lib.hid (Ka.out.step hTl q2)
    have h41 := g4.out w3 q1
    clear h31 q1 q2 Ka g4 c0 c1 c2 c3 c4 c5
    go_wp2_with fail
    refine h41.mono ?_
    rintro e w4 ⟨rfl, q1, q2⟩
    have k4 := k3.out.step hTl q2
    obtain ⟨c0, c1, c2, c3, c4, c5⟩ := k4.1.cells
    obtain ⟨wb, hwb⟩ : ∃ wb, w4.setCell ⟨w.heap.size, 1, none⟩ (.string S) = wb := ⟨_, rfl⟩
    have h51 := g5.out wb (by rw [← hwb]; exact boxed_set q1 (by show w.heap.size ≠ T; omega) _)
    have kb : RtK T w M S none 0 0 wb := by rw [← hwb]; exact k4.sub S
    have Kb := Lib.hid kb
    clear h41 q1 q2 k3 k4 kb g5
    go_wp2_with fail
    refine h51.mono ?_
    rintro e w5 ⟨⟨X5, rfl⟩, q1, q2⟩
    have K5 : Hid (RtS T w M S r2 [] none 0 w5) := Lib.hid ⟨Kb.out.step hTl q2, q1, World.ownsRow_nil _ _ _ _⟩
    clear h51 q1 q2 Kb c0 c1 c2 c3 c4 c5
    go_wp2
    go_loopw [20] (fun _ wr => ∃ (u : TextA) (l : List ParC) (ao : Option Addr) (cap n : Nat), Hid (RtS T w M S u l ao cap wr) ∧ Hid (u.length < n ∧ moreC n l u = F) ∧ u.length ≤ 10000000 ∧ l.length ≤ 8) (fun _ wr => sizeAt T wr)
    case atStart => exact ⟨r2, [], none, 0, s.length + 1, K5, Lib.hid ⟨hn0, HF.out⟩, hr2l, by simp⟩
    case round =>
      obtain ⟨u, l, ao, cap, n, hk, hst, hul, hl8⟩ := hrel
      clear K5
      obtain ⟨kr, kx, ko⟩ := hk.out
      obtain ⟨hn, hmo⟩ := hst.out
      obtain ⟨n, rfl⟩ : ∃ m, n = m + 1 := ⟨n - 1, by omega⟩
      unfold moreC at hmo
      have hsz := size_at kx
      have ho1 : Calls Tryz.prog 100 #[.func (.func 103) #[] #[.pointer (some ⟨T, 0, none⟩)], .int .u8 59] wr fun e w' => e = .returned (.bool (cutA 59 u).isSome) ∧ Boxed w' T 9 (.string (textQ ((cutA 59 u).getD u))) ∧ TakeK T wr.heap.size wr w' := cone_any 59 T u wr kx (by omega)
      have KR := Lib.hid (And.intro kr ko)
      clear hk kr kx ko hst
      cases hq : cutA 59 u with
      | none =>
        rw [hq] at ho1 hmo
        have ho1 : Calls Tryz.prog 100 #[.func (.func 103) #[] #[.pointer (some ⟨T, 0, none⟩)], .int .u8 59] wr fun e w' => e = .returned (.bool false) ∧ Boxed w' T 9 (.string (textQ u)) ∧ TakeK T wr.heap.size wr w' := ho1
        have hmo : (if u = [] then some l else none) = F := hmo
        obtain ⟨k, hk⟩ : ∃ k, l.length = k := ⟨_, rfl⟩
        obtain ⟨X, hX⟩ : ∃ X, textQ u = X := ⟨_, rfl⟩
        have hXe : X.toList.isEmpty = decide (u = []) := by
          rw [← hX, Lib.toList_data]
          show u.isEmpty = _
          cases u <;> simp
        have hti : Hid (∀ W, RtS T w M S u l ao cap W → Calls Tryz.prog 103 #[.func (.func 102) #[] #[], .pointer (some ⟨T, 0, none⟩)] W fun e w' => e = .returned (.string X) ∧ RtS T w M S [] l ao cap w') := Lib.hid fun W ⟨h1, h2, h3⟩ => by
          refine (ctake_pure 102 enter_text (fun _ => true) ask_text T u W h2 (by omega)).mono ?_
          rintro e w' ⟨rfl, q1, q2⟩
          obtain ⟨a1, a2⟩ := take_end (p := fun _ => true) u (by simp)
          rw [a2] at q1
          exact ⟨by rw [a1, hX], h1.step hTl q2, q1, own_take h3 (by omega) q2⟩
        have HE : Hid (∀ w', RtJ T w M S ao k cap l w' → P (.returned (.tuple #[.agg #[.string M, .string S, .slice ao k cap], .bool (X.toList.isEmpty)])) w') := Lib.hid fun w' hw' => by
          rw [hXe]
          by_cases hu : u = []
          · rw [if_pos hu] at hmo
            rw [decide_eq_true hu]
            exact hY.out _ w' l ao cap hmo.symm (by rw [hk]) hw'.2
          · rw [if_neg hu] at hmo
            rw [decide_eq_false hu]
            exact hN.out _ w' ⟨_, _, _, _, _, rfl⟩ hmo.symm
        have HRT : Hid (∀ W, RtS T w M S [] l ao cap W → RtK T w M S ao k cap W) := Lib.hid fun W h => by rw [← hk]; exact h.1
        have HRS : Hid (∀ W, RtS T w M S u l ao cap W → TypAt W w.heap.size M S ao k cap) := Lib.hid fun W h => by rw [← hk]; exact h.1.1
        have HJ : Hid (∀ W, (RtS T w M S u l ao cap W ∨ RtS T w M S [] l ao cap W) → (W.cell? ⟨w.heap.size, 0, none⟩ = some (.string M) ∧ W.cell? ⟨w.heap.size, 1, none⟩ = some (.string S) ∧ W.cell? ⟨w.heap.size, 2, none⟩ = some (.slice ao k cap) ∧ RtJ T w M S ao k cap l W)) := Lib.hid fun W h => by
          have h2 : RtJ T w M S ao k cap l W := by
            rw [← hk]
            rcases h with h | h
            · exact ⟨h.1, h.2.2⟩
            · exact ⟨h.1, h.2.2⟩
          obtain ⟨a0, a1, a2, _⟩ := h2.1.1.cells
          exact ⟨a0, a1, a2, h2⟩
        have HP : Hid (∀ W, (W.cell? ⟨w.heap.size, 0, none⟩ = some (.string M) ∧ W.cell? ⟨w.heap.size, 1, none⟩ = some (.string S) ∧ W.cell? ⟨w.heap.size, 2, none⟩ = some (.slice ao k cap) ∧ RtJ T w M S ao k cap l W) →
            ((((W.setCell ⟨w.heap.size, 0, none⟩ (.string M)).setCell ⟨w.heap.size, 1, none⟩ (.string S)).setCell ⟨w.heap.size, 2, none⟩ (.slice ao k cap)).cell? ⟨w.heap.size, 0, none⟩ = some (.string M) ∧ (((W.setCell ⟨w.heap.size, 0, none⟩ (.string M)).setCell ⟨w.heap.size, 1, none⟩ (.string S)).setCell ⟨w.heap.size, 2, none⟩ (.slice ao k cap)).cell? ⟨w.heap.size, 1, none⟩ = some (.string S) ∧ (((W.setCell ⟨w.heap.size, 0, none⟩ (.string M)).setCell ⟨w.heap.size, 1, none⟩ (.string S)).setCell ⟨w.heap.size, 2, none⟩ (.slice ao k cap)).cell? ⟨w.heap.size, 2, none⟩ = some (.slice ao k cap) ∧ RtJ T w M S ao k cap l (((W.setCell ⟨w.heap.size, 0, none⟩ (.string M)).setCell ⟨w.heap.size, 1, none⟩ (.string S)).setCell ⟨w.heap.size, 2, none⟩ (.slice ao k cap)))) := Lib.hid fun W h => by
          have h2 := h.2.2.2.1.put M S ao k cap
          obtain ⟨a0, a1, a2, _⟩ := h2.1.cells
          exact ⟨a0, a1, a2, h2, own_put h.2.2.2.2 (by omega) _ _ _⟩
        have hdr : Hid (∀ W, RtS T w M S u l ao cap W → RtS T w M S u l ao cap W.drew) := Lib.hid fun W ⟨h1, h2, h3⟩ => ⟨h1.step hTl (.of (Below.refl _ _).drew), h2, own_below h3 (Below.refl _ _).drew⟩
        clear hq hX hmo hn hsz hk hXe hN hY HF
        go_wp2_with fail
        refine ho1.mono ?_
        rintro e w6 ⟨rfl, q1, q2⟩
        have K6 : Hid (RtS T w M S u l ao cap w6) := Lib.hid ⟨KR.out.1.step hTl q2, q1, own_take KR.out.2 (by omega) q2⟩
        obtain ⟨c0, c1, c2, c3, c4, c5⟩ := (HRS.out w6 K6.out).cells
        have K7 := Lib.hid (hdr.out _ K6.out)
        have J6 := Lib.hid (HJ.out _ (.inl K6.out))
        have J7 := Lib.hid (HJ.out _ (.inl K7.out))
        clear ho1 q1 q2 KR hdr
        go_wp2_with fail
        go_region_held3 (fun W => W.cell? ⟨w.heap.size, 0, none⟩ = some (.string M) ∧ W.cell? ⟨w.heap.size, 1, none⟩ = some (.string S) ∧ W.cell? ⟨w.heap.size, 2, none⟩ = some (.slice ao k cap) ∧ RtJ T w M S ao k cap l W)
          (first | assumption | exact J6.out | exact J7.out | exact HJ.out _ (by assumption) | exact HP.out _ (by assumption) | (trace_state; fail))
          (first
            | (go_at_fn 103; (with_reducible refine (hti.out _ ?_).mono ?_); (first | exact K6.out | exact K7.out); rintro e w7 ⟨rfl, hS7⟩; have j7 := HJ.out w7 (.inr hS7); obtain ⟨e0, e1, e2, e3, e4, e5⟩ := (HRT.out w7 hS7).1.cells))
        all_goals
          have kz := (HRT.out w7 hS7).put M S ao k cap
          obtain ⟨k0, k1, k2, _⟩ := kz.1.cells
          have Q := Lib.hid (And.intro (HE.out _ (HP.out _ j7).2.2.2) kz.2)
          clear hti HE HRT HRS HJ HP K6 K7 J6 J7 hS7 j7 kz
          go_wp2
          refine bodyPost_ret (v := .tuple #[.agg #[.string M, .string S, .slice ao k cap], .bool (X.toList.isEmpty)]) (by simp [results, Tryz.f65, go_sem, k0, k1, k2]) rfl Q.out
      | some r3 =>
        rw [hq] at ho1 hmo
        have ho1 : Calls Tryz.prog 100 #[.func (.func 103) #[] #[.pointer (some ⟨T, 0, none⟩)], .int .u8 59] wr fun e w' => e = .returned (.bool true) ∧ Boxed w' T 9 (.string (textQ r3)) ∧ TakeK T wr.heap.size wr w' := ho1
        have hmo : (match paramC (r3.dropWhile gapC) with | none => none | some (p, u) => if l.length = 8 then none else moreC n (l ++ [p]) (u.dropWhile gapC)) = F := hmo
        have h3l := congrArg List.length (cut_lenA hq)
        rw [List.length_cons] at h3l
        obtain ⟨r4, hr4⟩ : ∃ u, r3.dropWhile gapC = u := ⟨_, rfl⟩
        have d5 := drop_len gapC r3
        have g6 := hgp r3 (by omega)
        rw [hr4] at d5 g6 hmo
        have h7 : Hid (∀ W, Boxed W T 9 (.string (textQ r4)) → Calls Tryz.prog 101 #[.func (.func 103) #[] #[.pointer (some ⟨T, 0, none⟩)]] W fun e w' => TookP (paramC r4) T e w' ∧ TakeK T W.heap.size W w') := Lib.hid fun W hW => crdparam_any T r4 W hW (by omega)
        obtain ⟨k, hk⟩ : ∃ k, l.length = k := ⟨_, rfl⟩
        have Hk := Lib.hid hk
        have hk8 : k ≤ 8 := by omega
        rw [hk] at hmo
        have HS2 := Lib.hid hsz
        have Hn := Lib.hid hn
        have Hmo := Lib.hid hmo
        clear hq hr4 hmo hk hsz hn
        go_wp2_with fail
        refine ho1.mono ?_
        rintro e w6 ⟨rfl, q1, q2⟩
        have K6 := Lib.hid (And.intro (KR.out.1.step hTl q2) (own_take KR.out.2 (by omega) q2))
        have g61 := g6.out w6 q1
        clear ho1 q1 q2 KR g6
        go_wp2_with fail
        refine g61.mono ?_
        rintro e w7 ⟨⟨X7, rfl⟩, q1, q2⟩
        have K7 := Lib.hid (And.intro (K6.out.1.step hTl q2) (own_take K6.out.2 (by omega) q2))
        have h71 := h7.out w7 q1
        clear g61 q1 q2 K6 h7
        cases hp : paramC r4 with
        | none =>
          have hmo := Hmo.out
          rw [hp] at h71 hmo
          have h72 : Calls Tryz.prog 101 #[.func (.func 103) #[] #[.pointer (some ⟨T, 0, none⟩)]] w7 fun e w' => (∃ X Y, e = .returned (.tuple #[.agg #[.string X, .string Y], .bool false])) ∧ TakeK T w7.heap.size w7 w' := h71.mono fun e w' ⟨⟨X, Y, R, h, _⟩, hb⟩ => ⟨⟨X, Y, h⟩, hb⟩
          have Hf := Lib.hid (show F = none from hmo.symm)
          clear h71 hmo hp Hmo
          go_wp2_with fail
          refine h72.mono ?_
          rintro e w8 ⟨⟨X, Y, rfl⟩, q2⟩
          obtain ⟨w9, hw9⟩ : ∃ w9, w8.alloc (.cells #[.string X, .string Y] 57) = w9 := ⟨_, rfl⟩
          have l9 : Below w8.heap.size w8 w9 := by rw [← hw9]; exact (Below.refl _ _).alloc (Nat.le_refl _) _
          have k9 := (K7.out.1.step hTl q2).step hTl (.of l9)
          obtain ⟨c0, c1, c2, c3, c4, c5⟩ := k9.1.cells
          have kz := k9.put ⟨#[]⟩ ⟨#[]⟩ none 0 0
          obtain ⟨k0, k1, k2, _⟩ := kz.1.cells
          have Q := Lib.hid kz.2
          clear h72 q2 l9 k9 kz K7
          go_wp2
          refine bodyPost_ret (v := .tuple #[.agg #[.string ⟨#[]⟩, .string ⟨#[]⟩, .slice none 0 0], .bool false]) (by simp [results, Tryz.f65, go_sem, k0, k1, k2]) rfl ⟨hN.out _ _ ⟨_, _, _, _, _, rfl⟩ Hf.out, Q.out⟩
        | some x =>
          obtain ⟨p, u2⟩ := x
          have hmo := Hmo.out
          rw [hp] at h71 hmo
          have hmo : (if k = 8 then none else moreC n (l ++ [p]) (u2.dropWhile gapC)) = F := hmo
          obtain ⟨N, hNq⟩ : ∃ N, textQ p.1 = N := ⟨_, rfl⟩
          obtain ⟨V, hVq⟩ : ∃ N, textQ p.2 = N := ⟨_, rfl⟩
          have h72 : Calls Tryz.prog 101 #[.func (.func 103) #[] #[.pointer (some ⟨T, 0, none⟩)]] w7 fun e w' => e = .returned (.tuple #[.agg #[.string N, .string V], .bool true]) ∧ Boxed w' T 9 (.string (textQ u2)) ∧ TakeK T w7.heap.size w7 w' := h71.mono fun e w' ⟨⟨h, h2⟩, hb⟩ => ⟨by rw [h, ← hNq, ← hVq], h2, hb⟩
          have hpl := param_len hp
          have HNV := Lib.hid (And.intro hNq hVq)
          clear h71 hp Hmo hNq hVq
          by_cases h8 : k = 8
          · rw [if_pos h8] at hmo
            have Hf := Lib.hid (show F = none from hmo.symm)
            have hk9 : ((k : Int) == 8) = true := by rw [h8]; rfl
            have K7b := K7.out.1
            rw [Hk.out] at K7b
            clear hmo h8
            go_wp2_with fail
            refine h72.mono ?_
            rintro e w8 ⟨rfl, q1, q2⟩
            obtain ⟨w9, hw9⟩ : ∃ w9, w8.alloc (.cells #[.string N, .string V] 57) = w9 := ⟨_, rfl⟩
            have l9 : Below w8.heap.size w8 w9 := by rw [← hw9]; exact (Below.refl _ _).alloc (Nat.le_refl _) _
            have k9 := (K7b.step hTl q2).step hTl (.of l9)
            obtain ⟨c0, c1, c2, c3, c4, c5⟩ := k9.1.cells
            have kz := k9.put ⟨#[]⟩ ⟨#[]⟩ none 0 0
            obtain ⟨k0, k1, k2, _⟩ := kz.1.cells
            have Q := Lib.hid kz.2
            clear h72 q1 q2 l9 k9 kz K7 K7b
            go_wp2
            refine bodyPost_ret (v := .tuple #[.agg #[.string ⟨#[]⟩, .string ⟨#[]⟩, .slice none 0 0], .bool false]) (by simp [results, Tryz.f65, go_sem, k0, k1, k2]) rfl ⟨hN.out _ _ ⟨_, _, _, _, _, rfl⟩ Hf.out, Q.out⟩
          · rw [if_neg h8] at hmo
            have hk9 : ((k : Int) == 8) = false := by rw [beq_eq_false_iff_ne]; omega
            have K7b := K7.out.1
            rw [Hk.out] at K7b
            have K7B := Lib.hid K7b
            have d6 := drop_len gapC u2
            have g8 := hgp u2 (by omega)
            obtain ⟨u3, hu3⟩ : ∃ u, u2.dropWhile gapC = u := ⟨_, rfl⟩
            rw [hu3] at hmo d6 g8
            have Hmo := Lib.hid hmo
            have hn3 : u3.length < n := by have := Hn.out; omega
            have hk7 : k ≤ 7 := by omega
            clear hmo h8 hu3 K7b
            go_wp2_with fail
            refine h72.mono ?_
            rintro e w8 ⟨rfl, q1, q2⟩
            obtain ⟨w9, hw9⟩ : ∃ w9, w8.alloc (.cells #[.string N, .string V] 57) = w9 := ⟨_, rfl⟩
            have l9 : Below w8.heap.size w8 w9 := by rw [← hw9]; exact (Below.refl _ _).alloc (Nat.le_refl _) _
            have n9 : ParAt w9 w8.heap.size N V := by rw [← hw9]; exact par_new w8 N V
            have k9 := (K7B.out.step hTl q2).step hTl (.of l9)
            have o9 := own_below (own_take K7.out.2 (by omega) q2) l9
            have x9 := boxed_below q1 l9
            obtain ⟨c0, c1, c2, c3, c4, c5⟩ := k9.1.cells
            obtain ⟨y0, y1, y2, y3⟩ := n9.cells
            obtain ⟨wa, hwa⟩ : ∃ wa, w9.alloc (.cells #[.string N, .string V] 57) = wa := ⟨_, rfl⟩
            have la : Below w9.heap.size w9 wa := by rw [← hwa]; exact (Below.refl _ _).alloc (Nat.le_refl _) _
            have na : ParAt wa w9.heap.size N V := by rw [← hwa]; exact par_new w9 N V
            have Ka := Lib.hid (k9.step hTl (.of la))
            have Oa := Lib.hid (own_below o9 la)
            have Xa := Lib.hid (boxed_below x9 la)
            have Na : Hid (wa.cell? ⟨w9.heap.size, 0, none⟩ = some (.string (textQ p.1)) ∧ wa.cell? ⟨w9.heap.size, 1, none⟩ = some (.string (textQ p.2))) := Lib.hid (by
              rw [HNV.out.1, HNV.out.2]
              exact ⟨na.cells.1, na.cells.2.1⟩)
            have hza : w.heap.size + 1 ≤ wa.heap.size := Ka.out.1.lt
            rw [Hk.out] at Oa
            clear h72 q1 q2 l9 n9 k9 o9 x9 la na K7 K7B
            go_wp2_with (at_builtin; refine append_parC rfl _ _ rfl (w.heap.size + 1) (.slice ao k cap) l p rfl Oa.out hza (by rw [Hk.out]; omega) w9.heap.size 1 rfl Na.out.1 Na.out.2 ?_)
            intro v' w10 hown10 hgrow
            have b10 : Below (w.heap.size + 1) wa w10 := (Below.refl _ _).grown hgrow hza (fun q hq => (Oa.out.lt q hq).1)
            obtain ⟨ao', cap', rfl⟩ := own_slice hown10
            have e9 : (l ++ [p]).length = k + 1 := by rw [List.length_append, Hk.out]; rfl
            rw [e9] at hown10
            have k10 : RtK T w M S ao k cap w10 := ⟨(b10.block _ (Nat.lt_succ_self _)).trans Ka.out.1, Ka.out.2.trans (.of (b10.mono (by omega)))⟩
            have x10 : Boxed w10 T 9 (.string (textQ u2)) := (b10.block _ (by omega)).trans Xa.out
            obtain ⟨c0, c1, c2, c3, c4, c5⟩ := k10.1.cells
            obtain ⟨wc, hwc⟩ : ∃ wc, w10.setCell ⟨w.heap.size, 2, none⟩ (.slice ao' (k + 1) cap') = wc := ⟨_, rfl⟩
            have kc : RtK T w M S ao' (k + 1) cap' wc := by rw [← hwc]; exact k10.pars _ _ _
            have oc : ParsOwn wc (w.heap.size + 1) (.slice ao' (k + 1) cap') (l ++ [p]) := by
              rw [← hwc]
              exact ownsRow_setCell_below hown10 (a := ⟨w.heap.size, 2, none⟩) (by show w.heap.size < w.heap.size + 1; omega) _
            have g81 := g8.out wc (by rw [← hwc]; exact boxed_set x10 (by show w.heap.size ≠ T; omega) _)
            have Kc := Lib.hid (And.intro kc oc)
            have E9 := Lib.hid e9
            rw [e9]
            clear hown10 hgrow b10 k10 x10 kc oc g8 Ka Oa Xa Na e9
            go_wp2_with fail
            refine g81.mono ?_
            rintro e w11 ⟨⟨X11, rfl⟩, q1, q2⟩
            have K11 : Hid (RtS T w M S u3 (l ++ [p]) ao' cap' w11) := Lib.hid (by
              refine ⟨?_, q1, ?_⟩
              · rw [E9.out]
                exact Kc.out.1.step hTl q2
              · rw [E9.out]
                exact own_take Kc.out.2 (by omega) q2)
            have hm : sizeAt T w11 < sizeAt T wr := by
              rw [size_at q1, HS2.out]
              omega
            have HM2 := Lib.hid hm
            have hl9 : (l ++ [p]).length ≤ 8 := by rw [E9.out]; omega
            have hu9 : u3.length ≤ 10000000 := by omega
            clear g81 q1 q2 Kc hm c0 c1 c2 c3 c4 c5
            go_wp2
            go_roundw
            case rel => exact ⟨u3, l ++ [p], ao', cap', n, K11, Lib.hid ⟨hn3, Hmo.out⟩, hu9, hl9⟩
            case measure => exact HM2.out
end Go.Proofs.YtjikghndoklajaaGreatDoor
