/-
  What words.readWords comes to: told by the plain function.
-/
import Derived.Test.YtjkcjbbkplonkaaDoorW5W
namespace Go.Proofs.YtjkcjbbkplonkaaDoor
open Go.RowKit Go.Shelf

theorem store_fn {P : Program} {w : World} {a : Addr} {m : Mode} (fn : Fn) (first captured : Array Value) : (store a (.func fn first captured) m).run P w = stored P w a (.func fn first captured) m := run_store P w a _ m rfl
attribute [local go_sem] Oper.semAt_some store_fn

/-- What readWords hands back. -/
def rwV (r : Option (List UInt8 × Bool)) : Value := match r with
  | some (l, _) => .tuple #[.string ⟨l.toArray⟩, .bool true]
  | none => .tuple #[.string ⟨#[]⟩, .bool false]

theorem owns_lower {w : World} {B B' size n : Nat} {e : TypeId} {v : Value} {xs : List Value} (h : w.ownsRow B e size v n xs) (hb : B' ≤ B) : w.ownsRow B' e size v n xs :=
  ⟨h.1, h.2.imp id fun ⟨g, cap, cur, hv, hg, r⟩ => ⟨g, cap, cur, hv, Nat.le_trans hb hg, r⟩⟩

set_option maxRecDepth 100000 in
set_option maxHeartbeats 4000000 in
theorem wread_words (s : ByteArray) (w : World) (hs : s.size ≤ 100000) :
    Calls Tryd.prog 14 #[.string s] w fun e w' => e = .returned (rwV (readW (splitB 32 s.data.toList))) ∧ Below w.heap.size w w' := by
  have hl : s.data.toList.length = s.size := rfl
  refine (callsIn_wide (n := 8)).1 ?_
  refine callsIn_of_wp_marks Tryd.func14 rfl trivial ?_ rfl
  simp only [Tryd.ntmps14, List.size_toArray, List.length_cons, List.length_nil, Nat.reduceAdd, Nat.reduceSub, Array.replicate_succ, Array.replicate_zero, List.push_toArray, List.append_toArray, List.nil_append, List.cons_append]
  gi_wp2_with fail
  refine ⟨trivial, ?_⟩
  obtain ⟨w0, hw0⟩ : ∃ w0, ((w.alloc (.cells #[.string ⟨#[]⟩] 9)).alloc (.cells #[.bool false] 4)).alloc (.cells #[.pointer none, .slice none 0 0] 36) = w0 := ⟨_, rfl⟩
  have hz0 : w0.heap.size = w.heap.size + 3 := by rw [← hw0]; simp
  have hbd0 : Lib.IsBuilder 36 5 w.heap.size (w.heap.size + 1 + 1) (Lib.byteCells []) w0 := by
    have := Lib.fresh_isBuilder 36 5 ((w.alloc (.cells #[.string ⟨#[]⟩] 9)).alloc (.cells #[.bool false] 4))
    rw [World.size_alloc, World.size_alloc, hw0] at this
    rcases this with ⟨h1, v, h2, h3, h4⟩ | ⟨h1, v, h2, h3, h4⟩
    · exact .inl ⟨by omega, v, h2, owns_lower h3 (by omega), h4⟩
    · exact .inr ⟨by omega, v, h2, owns_lower h3 (by omega), h4⟩
  have r1 : Boxed w0 w.heap.size 9 (.string ⟨#[]⟩) := by rw [← hw0]; exact ((Boxed.new _ _ _).alloc _).alloc _
  have r2 : Boxed w0 (w.heap.size + 1) 4 (.bool false) := by
    rw [← hw0]
    have := Boxed.new (w.alloc (.cells #[.string ⟨#[]⟩] 9)) 4 (.bool false)
    rw [World.size_alloc] at this
    exact this.alloc _
  have b0 : Below w.heap.size w w0 := by
    rw [← hw0]
    exact (((Below.refl _ _).alloc (Nat.le_refl _) _).alloc (by simp) _).alloc (by simp; omega) _
  rw [hw0]
  clear hw0
  refine (callsIn_wide.2 (wreader_any (w.heap.size + 1 + 1) w0)).mono ?_
  rintro e w1 ⟨N, C, D, E, rfl, hcd, xc, xd, xe, hN, hC, l1⟩
  have z1 := l1.size
  have r1a := boxed_below r1 l1
  have r2a := boxed_below r2 l1
  have hbd1 := isbuilder_below hbd0 l1
  have b1 := b0.trans (l1.mono (by omega))
  gi_wp2_with fail
  refine ⟨trivial, ?_⟩
  obtain ⟨fv, hfv⟩ : ∃ fv : Value, (.func (.func 30) #[] #[.pointer (some ⟨C, 0, none⟩), .pointer (some ⟨D, 0, none⟩), .pointer (some ⟨E, 0, none⟩)]) = fv := ⟨_, rfl⟩
  refine (callsIn_wide.2 (splitSeq_anyQ s ⟨#[32]⟩ _)).mono ?_
  rintro e w2 ⟨rfl, hw2⟩
  rw [hfv] at hw2
  have hz2 : w2.heap.size = w1.heap.size + 4 := by rw [hw2]; simp
  have l2 : Below w1.heap.size w1 w2 := by
    rw [hw2]
    exact ((((Below.refl _ _).alloc (Nat.le_refl _) _).alloc (by simp) _).alloc (by simp; omega) _).alloc (by simp; omega) _
  have x0 : Boxed w2 w1.heap.size 29 fv := by rw [hw2]; exact (((Boxed.new _ _ _).alloc _).alloc _).alloc _
  have x1 : Boxed w2 (w1.heap.size + 1) 9 (.string s) := by
    rw [hw2]
    have := Boxed.new (w1.alloc (.cells #[fv] 29)) 9 (.string s)
    rw [World.size_alloc] at this
    exact (this.alloc _).alloc _
  have x2 : Boxed w2 (w1.heap.size + 1 + 1) 9 (.string ⟨#[32]⟩) := by
    rw [hw2]
    have := Boxed.new ((w1.alloc (.cells #[fv] 29)).alloc (.cells #[.string s] 9)) 9 (.string ⟨#[32]⟩)
    rw [World.size_alloc, World.size_alloc] at this
    exact this.alloc _
  have x3 : Boxed w2 (w1.heap.size + 1 + 1 + 1) 3 (.int .i64 0) := by
    rw [hw2]
    have := Boxed.new (((w1.alloc (.cells #[fv] 29)).alloc (.cells #[.string s] 9)).alloc (.cells #[.string ⟨#[32]⟩] 9)) 3 (.int .i64 0)
    rw [World.size_alloc, World.size_alloc, World.size_alloc] at this
    exact this
  obtain ⟨csN, hcsN⟩ := hcd.held
  have hNF : N < w1.heap.size := heap_lt hcsN
  have hCF : C < w1.heap.size := xc.lt
  have hpre : RdPre w.heap.size (w.heap.size + 1 + 1) N C D E [] 0 false w2 := ⟨isbuilder_below hbd1 l2, hcd.same (l2.block N hNF), boxed_below xc l2, boxed_below xd l2, boxed_below xe l2, by omega, by omega, by omega⟩
  obtain ⟨F, hF⟩ : ∃ F, w1.heap.size = F := ⟨_, rfl⟩
  have HI : Hid (RwI w.heap.size (w.heap.size + 1 + 1) N C D E F w [] w2) := Lib.hid (by
    rw [← hF]
    exact ⟨⟨[], 0, false, rfl, hpre⟩, by rw [hfv]; exact x0, ⟨_, x1⟩, x2, x3, boxed_below r1a l2, boxed_below r2a l2, b1.trans (l2.mono (by omega))⟩)
  have hF3 : w.heap.size + 3 ≤ F := by omega
  have hNC : w.heap.size + 3 ≤ N ∧ w.heap.size + 3 ≤ C := ⟨by omega, by omega⟩
  rw [hF] at hz2 x0 x1 x2 x3 hNF hCF
  have Hl := Lib.hid hl
  clear hw2 hpre hl hcsN hcd xc xd xe hN hC l1 z1 r1a r2a hbd1 b1 l2 r1 r2 hbd0 b0 hz0
  have hbs : F + 1 < w2.heap.size := by omega
  subst hfv
  gi_wp2
  clear hF csN x0
  refine range_pre (n := 8) (by omega) (gf := 44) (lb := #[.pointer (some ⟨F + 1 + 1, 0, none⟩), .pointer (some ⟨F + 1, 0, none⟩), .pointer (some ⟨F + 1 + 1 + 1, 0, none⟩)]) rfl (enters_of Tryd.func44 (by kernel_rfl) rfl)
    (encs := fun x : List UInt8 => #[.string ⟨x.toArray⟩]) (R := fun pre x => ∃ rest, splitB 32 s.data.toList = pre ++ x :: rest) (K := RwK F) (S := fun ys => ys = splitB 32 s.data.toList) (Sp := fun pre => ∃ rest, splitB 32 s.data.toList = pre ++ rest) (bs := F + 1) hbs ?seq
    (fun h k b h1 h2 => (k b h1 h2).trans (h b h1 h2)) (fun W l o' hl b h1 h2 => World.putObj_heap_other (by omega)) (fun _ => rfl)
    (RwI w.heap.size (w.heap.size + 1 + 1) N C D E F w) (RwX w.heap.size w) (RwI.own (Nat.le_refl _) (by omega)) (RwI.store (by omega)) (RwX.own (Nat.le_refl _) (by omega)) HI.out
    (fun x => { tmps := #[.string s, undef, .pointer (some ⟨w.heap.size, 0, none⟩), .pointer (some ⟨w.heap.size + 1, 0, none⟩), .pointer (some ⟨w.heap.size + 1 + 1, 0, none⟩), .pointer (some ⟨F, 0, none⟩), .string ⟨x.toArray⟩, .func (.func 30) #[] #[.pointer (some ⟨C, 0, none⟩), .pointer (some ⟨D, 0, none⟩), .pointer (some ⟨E, 0, none⟩)], .string s,
      .func (.func 44) #[] #[.pointer (some ⟨F + 1 + 1, 0, none⟩), .pointer (some ⟨F + 1, 0, none⟩), .pointer (some ⟨F + 1 + 1 + 1, 0, none⟩)], .string ⟨x.toArray⟩, undef, undef, undef, undef, undef], defers := [] }) ?assign ?body ?done ?stop
  case seq =>
    intro l J Jx W hW hJs hY h0
    refine split_one_in 7 (by omega) l (F + 1) (F + 1 + 1) (F + 1 + 1 + 1) (by omega) 32 s J Jx hJs ?_ W
      ((hW.cell (p := ⟨F + 1, 0, none⟩) (by simp; omega)).trans x1.cell) ((hW.frozen (p := ⟨F + 1, 0, none⟩) (by simp; omega)).trans x1.frozen)
      ((hW.cell (p := ⟨F + 1 + 1, 0, none⟩) (by simp; omega)).trans x2.cell) ((hW.cell (p := ⟨F + 1 + 1 + 1, 0, none⟩) (by simp; omega)).trans x3.cell) (by unfold maxLen; omega) h0
    intro pre x W1 hj hx
    refine YieldAt.mono (hY pre x W1 hj hx) ?_
    rintro e W' (⟨he, hj', hk⟩ | h)
    · exact .inl ⟨he, hj', fun b hb => hk b (by omega) (by omega)⟩
    · exact .inr h
  case assign =>
    intro l x W C hC
    gi_wp2
    exact hC
  case body =>
    rintro l pre x W ⟨⟨acc, k, e, hrd, hp⟩, h3, ⟨y, h4⟩, h5, h6, h7, h8, h9⟩ ⟨rest, hx⟩
    obtain ⟨hxl, hal⟩ := piece_bounds hx hrd
    rw [Hl.out] at hxl hal
    obtain ⟨X, hX⟩ : ∃ X : ByteArray, (⟨x.toArray⟩ : ByteArray) = X := ⟨_, rfl⟩
    have hXd : X.data.toList = x := by rw [← hX]
    have hXs : X.size ≤ 1000000 := by
      have e1 : X.size = X.data.toList.length := rfl
      rw [e1, hXd]
      omega
    have hsn := read_snoc pre x
    rw [hrd] at hsn
    have c3 := h3.cell
    have keep : ∀ {W' : World} {q : Nat} {t : TypeId} {v : Value}, Kept3 N (w.heap.size + 1 + 1) C W W' → Boxed W q t v → t ≠ 5 → t ≠ 77 → t ≠ 4 → Boxed W' q t v := fun hk hq t1 t2 t3 => by
      obtain ⟨cs, hcs⟩ := hp.cd.held
      exact hk.box t1 (held_ne_box hcs t2 hq) (isbuilder_ne hp.bd hq) (box_ne hq hp.xc t3) hq
    have keep2 : ∀ {W' : World} {v : Value}, Kept3 N (w.heap.size + 1 + 1) C W W' → Boxed W (w.heap.size + 1) 4 v → Boxed W' (w.heap.size + 1) 4 v := fun hk hq => hk.box (by decide) (by omega) (by omega) (by omega) hq
    rw [hX]
    cases hst : stepW (some (acc, e)) x with
    | none =>
      have hcall := wread_none w.heap.size (w.heap.size + 1 + 1) N C D E acc k e X W hp hXs (by rw [hXd]; exact hst)
      have hdead : readW (pre ++ [x]) = none := by rw [hsn, hst]
      have Hdead := Lib.hid hdead
      clear hdead hst hsn hX hXd hrd hx
      gi_wp2_with fail
      refine ⟨trivial, ?_⟩
      refine (CallsIn.inRound l (callsIn_wide.2 hcall)).mono ?_
      rintro e2 W2 ⟨rfl, l2, k2⟩
      have g7 := keep k2 h7 (by decide) (by decide) (by decide)
      have g8 := keep2 k2 h8
      have d7 := g7.cell
      have f7 := g7.frozen
      have d8 := g8.cell
      have f8 := g8.frozen
      gi_wp2
      exact ⟨((hp.keeps k2).trans (KeepsOthers.setCell _ _ _)).trans (KeepsOthers.setCell _ _ _), rfl, Hdead.out, (g7.set _).other (by omega) _, (g8.other (by omega) _).set _, ((h9.trans l2).setCell (p := ⟨w.heap.size, 0, none⟩) (by simp) _).setCell (p := ⟨w.heap.size + 1, 0, none⟩) (by simp) _⟩
    | some be =>
      obtain ⟨acc2, e2⟩ := be
      have hcall := wread_some w.heap.size (w.heap.size + 1 + 1) N C D E acc acc2 k e e2 X W hp hXs (by omega) (by rw [hXd]; exact hst)
      have hgo : readW (pre ++ [x]) = some (acc2, e2) := by rw [hsn, hst]
      have Hgo := Lib.hid hgo
      clear hgo hst hsn hX hXd hrd hx
      gi_wp2_with fail
      refine ⟨trivial, ?_⟩
      refine (CallsIn.inRound l (callsIn_wide.2 hcall)).mono ?_
      rintro e3 W2 ⟨rfl, ⟨k', hp2⟩, l2, k2⟩
      have g3 := keep k2 h3 (by decide) (by decide) (by decide)
      have g4 := keep k2 h4 (by decide) (by decide) (by decide)
      have g5 := keep k2 h5 (by decide) (by decide) (by decide)
      have g6 := keep k2 h6 (by decide) (by decide) (by decide)
      have g7 := keep k2 h7 (by decide) (by decide) (by decide)
      have g8 := keep2 k2 h8
      gi_wp2
      refine ⟨hp.keeps k2, fun q q1 q2 => ?_, ⟨acc2, k', e2, Hgo.out, hp2⟩, g3, ⟨y, g4⟩, g5, g6, g7, g8, h9.trans l2⟩
      rcases (by omega : q = F + 1 ∨ q = F + 1 + 1 ∨ q = F + 1 + 1 + 1) with rfl | rfl | rfl
      · exact Eq.trans (show W2.heap[F + 1]? = _ from g4) (show W.heap[F + 1]? = _ from h4).symm
      · exact Eq.trans (show W2.heap[F + 1 + 1]? = _ from g5) (show W.heap[F + 1 + 1]? = _ from h5).symm
      · exact Eq.trans (show W2.heap[F + 1 + 1 + 1]? = _ from g6) (show W.heap[F + 1 + 1 + 1]? = _ from h6).symm
  case done =>
    rintro Dd ys W hD rfl ⟨⟨acc, k, e, hrd, hp⟩, h3, h4, h5, h6, h7, h8, h9⟩ hK
    have hstr := Tryd.Builder_String_any_k w.heap.size (w.heap.size + 1 + 1) acc W (Lib.IsBuilderF.of hp.bd) hp.hB
    have hDne : some Dd ≠ some (w.heap.size + 1 + 1) := by simp; omega
    have Hrd := Lib.hid hrd
    have n7 := isbuilder_ne hp.bd h7
    have n8 := isbuilder_ne hp.bd h8
    clear hrd
    gi_wp2_with fail
    refine ⟨trivial, ?_⟩
    refine (callsIn_wide.2 hstr).mono ?_
    rintro e2 W2 ⟨rfl, _, hbe, ho⟩
    have hK' : W2.heap[Dd]? = some (.deferred (some [])) := ho Dd _ hK hDne (fun c fz e => by cases e)
    have g7 := kept_box ho (by decide) n7 h7
    have g8 := kept_box ho (by decide) n8 h8
    have d7 := g7.cell
    have f7 := g7.frozen
    have d8 := g8.cell
    have f8 := g8.frozen
    have G := Lib.hid (And.intro g7 (And.intro g8 hK'))
    clear hstr g7 g8 hK'
    gi_wp2
    obtain ⟨g7, g8, hK'⟩ := G.out
    have hK2 := ((KeepsOthers.setCell W2 ⟨w.heap.size, 0, none⟩ (.string ⟨acc.toArray⟩)).trans (KeepsOthers.setCell _ ⟨w.heap.size + 1, 0, none⟩ (.bool true))).same Dd _ hK' rfl
    have e7 := boxed_ownQ ((g7.set (.string ⟨acc.toArray⟩)).other (B' := w.heap.size + 1) (by omega) (.bool true)) (grownBy_putObj' _ Dd (.deferred none)) (fun r e => by cases e; exact ⟨_, hK2, rfl⟩)
    have e8 := boxed_ownQ ((g8.other (B' := w.heap.size) (by omega) (.string ⟨acc.toArray⟩)).set (.bool true)) (grownBy_putObj' _ Dd (.deferred none)) (fun r e => by cases e; exact ⟨_, hK2, rfl⟩)
    have k7 := e7.cell
    have k8 := e8.cell
    refine ⟨by simp, .inl ⟨_, _, rfl, run_takeDeferred hK2, ?_⟩⟩
    refine ⟨.tuple #[.string ⟨acc.toArray⟩, .bool true], by simp [results, Tryd.f14, go_sem, k7, k8], by rw [Hrd.out]; rfl, ?_⟩
    exact (((h9.trans hbe).setCell (p := ⟨w.heap.size, 0, none⟩) (by simp) _).setCell (p := ⟨w.heap.size + 1, 0, none⟩) (by simp) _).trans (belowK_b (w := w) (Nat.le_refl _) _ Dd _ _ (by omega) hK2 rfl rfl)
  case stop =>
    rintro Dd c pre W hD ⟨rest, hr⟩ ⟨rfl, hn, h7, h8, h9⟩ hK
    have hfin : readW (splitB 32 s.data.toList) = none := by rw [hr]; exact read_dead pre rest hn
    have Hfin := Lib.hid hfin
    clear hfin hn hr
    gi_wp2
    refine ⟨by simp, .inl ⟨_, _, rfl, run_takeDeferred hK, ?_⟩⟩
    have e7 := boxed_ownQ h7 (grownBy_putObj' W Dd (.deferred none)) (fun r e => by cases e; exact ⟨_, hK, rfl⟩)
    have e8 := boxed_ownQ h8 (grownBy_putObj' W Dd (.deferred none)) (fun r e => by cases e; exact ⟨_, hK, rfl⟩)
    have k7 := e7.cell
    have k8 := e8.cell
    refine ⟨.tuple #[.string ⟨#[]⟩, .bool false], by simp [results, Tryd.f14, go_sem, k7, k8], by rw [Hfin.out]; rfl, ?_⟩
    exact h9.trans (belowK_b (w := w) (Nat.le_refl _) W Dd _ _ (by omega) hK rfl rfl)
end Go.Proofs.YtjkcjbbkplonkaaDoor
