/-
  SpoolReady returns true, for any items and any time: the walk.
-/
import Derived.Test.YtgpdplffljidbaaGreatDoorZ40
import Derived.Test.YtgpdplffljidbaaGreatDoorZ37
namespace Go.Proofs.YtgpdplffljidbaaGreatDoor
open Go.RowKit Go.Maps

theorem ItemsAt.cellsW {w W : World} {B k cap : Nat} {ao : Option Addr} {l : List ItemS} (h : ItemsAt w B (.slice ao k cap) l) (hb : Below w.heap.size w W) (hB : B ≤ w.heap.size) {i : Nat} (hi : i < l.length) : ∃ g off, ao = some ⟨g, off, none⟩ ∧
    W.cell? ⟨g, off + i * 7 + 3, none⟩ = some (.string (textQ l[i].tx)) ∧ W.cell? ⟨g, off + i * 7 + 6, none⟩ = some (.int .i64 l[i].d) := by
  obtain ⟨ao2, cap2, e, h1, h2, h3⟩ := h
  injection e with e1 e2 e3
  subst e1
  obtain ⟨g, off, rfl, hg, hc⟩ := h3 i hi
  have y : ∀ j, j < 7 → W.cell? ⟨g, off + i * 7 + j, none⟩ = (itemCells l[i])[j]? := fun j hj => (hb.cell (p := ⟨g, off + i * 7 + j, none⟩) (by show g < w.heap.size; omega)).trans (hc j hj)
  exact ⟨g, off, rfl, y 3 (by omega), y 6 (by omega)⟩

set_option maxRecDepth 100000 in
set_option maxHeartbeats 8000000 in
theorem wrdy_walk (v : Value) (l : List ItemS) (now : Int) (w : World) (hp : PowIs w) (hl : ItemsAt w w.heap.size v l) :
    Calls Tryz.prog 5 #[v, .int .i64 now] w fun e w' => e = .returned (.bool true) ∧ Below w.heap.size w w' := by
  have haw := awake16_any w hp
  obtain ⟨ao, cap, hv, hc1, hc2⟩ := hl.slice
  subst hv
  have hat : Hid (∀ W, Below w.heap.size w W → ∀ i (hi : i < l.length), ∃ g off, ao = some ⟨g, off, none⟩ ∧
    W.cell? ⟨g, off + i * 7 + 3, none⟩ = some (.string (textQ l[i].tx)) ∧ W.cell? ⟨g, off + i * 7 + 6, none⟩ = some (.int .i64 l[i].d)) := Lib.hid fun W hW i hi => hl.cellsW hW (Nat.le_refl _) hi
  have HL := Lib.hid hl
  have Hp := Lib.hid hp
  obtain ⟨n, hn⟩ : ∃ n, l.length = n := ⟨_, rfl⟩
  have Hn := Lib.hid hn
  unfold maxLen at hc2
  rw [hn] at hc1 HL ⊢
  clear hl hp hn
  go_enter Tryz.func5, Tryz.ntmps5
  go_wp2_with fail
  refine haw.mono ?_
  rintro e w1 ⟨rfl, hb1⟩
  have B1 := Lib.hid hb1
  clear haw hb1
  by_cases h20 : 20 < n
  · have Fin := B1
    go_wp2
    go_ret
    exact ⟨rfl, Fin.out⟩
  · have hmade := made_any 4096 (by omega) (by omega) (by omega) w1
    go_wp2_with fail
    refine hmade.mono ?_
    rintro e w2 ⟨N, Nd, g, d, rfl, hs, _, hb2⟩
    have hs : StoreG w2 w1.heap.size N Nd g 0 2048 1 0 d [] := hs
    have q2 : LawQ w1 w2 N Nd g 2048 1 0 d [] [] 0 := lawq_new hs hb2 (pow_below Hp.out B1.out)
    have hlt := hs.ltN
    have K2 := Lib.hid (And.intro q2 (And.intro (B1.out.trans (hb2.mono B1.out.size)) (And.intro hlt.1 (fun b hb => (hlt.2.2 b hb).2))))
    clear hmade hs hlt hb2 q2
    go_wp2
    go_loopw [7] (fun iv wr => ∃ i : Nat, i ≤ n ∧ iv = .int .i64 i ∧ Hid (wr = w2 ∧ ∀ j (hj : j < l.length), j < i → l[j].tx.length ≤ 500)) (fun iv _ => n - (intOf iv).toNat)
    case atStart => exact ⟨0, by omega, rfl, Lib.hid ⟨rfl, fun j hj h0 => by omega⟩⟩
    case round =>
      obtain ⟨i, hi, rfl, hk⟩ := hrel
      obtain ⟨hwr, _⟩ := hk.out
      subst hwr
      by_cases hlt : i < n
      · have hil : i < l.length := by rw [Hn.out]; exact hlt
        obtain ⟨gb, off, rfl, y3, _⟩ := hat.out wr K2.out.2.1 i hil
        obtain ⟨X, hX⟩ : ∃ X, textQ l[i].tx = X := ⟨_, rfl⟩
        rw [hX] at y3
        have hXs : X.size = l[i].tx.length := by rw [← hX]; rfl
        have HX := Lib.hid hXs
        clear hX
        by_cases hbig : 500 < X.size
        · have Fin := Lib.hid K2.out.2.1
          clear hXs
          go_wp2
          go_ret
          exact ⟨rfl, Fin.out⟩
        · have K3 := Lib.hid (show ∀ j (hj : j < l.length), j < i + 1 → l[j].tx.length ≤ 500 from fun j hj hji => by
            rcases Nat.lt_or_ge j i with h | h
            · exact hk.out.2 j hj h
            · obtain rfl : j = i := by omega
              omega)
          clear hXs hk
          go_wp2
          go_roundw
          case rel => exact ⟨i + 1, by omega, by go_num, Lib.hid ⟨by first | rfl | trivial, K3.out⟩⟩
          case measure => simp [intOf]; omega
      · obtain rfl : i = n := by omega
        have htx : ∀ x ∈ l, x.tx.length ≤ 500 := fun x hx => by
          obtain ⟨j, hj, rfl⟩ := List.getElem_of_mem hx
          exact hk.out.2 j hj (by rw [← Hn.out]; exact hj)
        have r2 : ItemsAt wr w.heap.size (.slice ao i cap) l := HL.out.below K2.out.2.1 (Nat.le_refl _)
        by_cases hr : ∀ x ∈ l, rightS x = true
        case neg =>
          have hadd := sadd_bad wr (.pointer (some ⟨N, 0, none⟩)) _ _ l r2 K2.out.2.1.size (by
            obtain ⟨x, hx⟩ := Classical.not_forall.1 hr
            obtain ⟨hx, hx2⟩ := Classical.not_imp.1 hx
            exact ⟨x, hx, by rw [Bool.not_eq_true] at hx2; exact hx2⟩)
          clear htx r2 hr hk
          go_wp2_with fail
          refine hadd.mono ?_
          rintro e w3 ⟨rfl, hb3⟩
          have Fin := Lib.hid (K2.out.2.1.trans (hb3.mono K2.out.2.1.size))
          clear hadd hb3
          go_wp2
          go_ret
          exact ⟨rfl, Fin.out⟩
        case pos =>
          have hln := Hn.out
          have hadd := lawq_add K2.out.1 _ _ l r2 K2.out.2.1.size hr (by omega)
          have hby := bytes_few hr htx
          have hsz := add_size l 0 (by omega)
          obtain ⟨u, hu, hcp⟩ := commit_adds (h := 2048) (used := 1) (ps := []) (l := l) (last := 0) (by omega) hr (by unfold secN; omega)
          have hq := queue_add queue_nil l hr (by omega)
          rw [List.nil_append, Nat.zero_add, hln] at hq
          have hu2 : u ≤ 400 := by unfold secN at hu; omega
          have HR := Lib.hid (And.intro hr (And.intro htx (And.intro hcp (And.intro hq (And.intro hu2 (And.intro (Nat.le_trans hsz (show 14 + 45 * l.length + bytesS l ≤ 30000 by omega)) hln))))))
          clear htx r2 hr hk hby hsz hu hcp hq hu2 hln
          go_wp2_with fail
          refine hadd.mono ?_
          rintro e w3 ⟨ao3, n3, cap3, rfl, hn3, ho, hb3⟩
          have q3 := K2.out.1.below hb3
          have hput := lawq_put q3 (by omega) wr.heap.size _ (addS 0 l) ho K2.out.2.2.1 K2.out.2.2.2 (Nat.le_trans (add_len _ _) (by have := HR.out.2.2.2.2.2.2; omega)) (by have := HR.out.2.2.2.2.2.1; omega)
          rw [HR.out.2.2.1] at hput
          clear hadd hn3 ho hb3 q3
          go_wp2_with fail
          refine hput.mono ?_
          rintro e w4 ⟨d4, rfl, hl4, _, ht4⟩
          have q4 : LawQ w1 w4 N Nd g 2048 u 1 d4 _ (nextS 0 l) i := ⟨hl4, HR.out.2.2.2.1, K2.out.1.pw⟩
          have hls : Calls Tryz.prog 19 #[.pointer (some ⟨N, 0, none⟩)] w4 fun e w' => ∃ ao cap, e = .returned (.slice ao i cap) ∧ Below w4.heap.size w4 w' := (lawq_list q4 (by omega) (by rw [next_len, HR.out.2.2.2.2.2.2]; omega)).mono fun e w' ⟨v, h1, h2, h3⟩ => by
            unfold ItemsOwn at h2
            rw [next_len, HR.out.2.2.2.2.2.2] at h2
            obtain ⟨ao, cap, rfl⟩ := row_slice h2
            exact ⟨ao, cap, h1, h3⟩
          have K4 := Lib.hid q4
          have KW := Lib.hid B1.out
          clear hput hl4 ht4 q4
          go_wp2_with fail
          refine hls.mono ?_
          rintro e w5 ⟨ao5, cap5, rfl, hb5⟩
          have q5 := K4.out.below hb5
          have hrd := lawq_ready q5 (by omega) (by rw [next_len, HR.out.2.2.2.2.2.2]; omega) now
          have K5 := Lib.hid q5
          clear hls hb5 q5 K4
          by_cases hex : ∃ j, ∃ h : j < l.length, l[j].d ≤ now
          case neg =>
            have hno := ready_none (now := now) HR.out.1 (fun j hj hd => hex ⟨j, hj, hd⟩)
            rw [hno] at hrd
            replace hrd : Calls Tryz.prog 21 #[.pointer (some ⟨N, 0, none⟩), .int .i64 now] w5 fun e w' => e = .returned (.tuple #[itemW 0 ⟨#[]⟩ ⟨#[]⟩ ⟨#[]⟩ 0 0 0, .bool false]) ∧ Below w5.heap.size w5 w' := hrd
            have Hex := Lib.hid hex
            clear hno hex
            go_wp2_with fail
            refine hrd.mono ?_
            rintro e w6 ⟨rfl, hb6⟩
            have L6 : Hid (Below w.heap.size w (w6.alloc (.cells #[.int .i64 0, .string ⟨#[]⟩, .string ⟨#[]⟩, .string ⟨#[]⟩, .int .i64 0, .int .i64 0, .int .i64 0] 44))) := Lib.hid (KW.out.trans ((K5.out.below (hb6.alloc hb6.size _)).s.lo.mono KW.out.size))
            clear hrd hb6
            go_wp2
            go_loopw [13] (fun jv wr => ∃ j : Nat, j ≤ i ∧ jv = .int .i64 j ∧ Hid (Below w.heap.size w wr)) (fun jv _ => i - (intOf jv).toNat)
            case atStart => exact ⟨0, by omega, rfl, L6⟩
            case round =>
              clear L6
              obtain ⟨j, hj, rfl, hk⟩ := hrel
              by_cases hlt : j < i
              · have hjl : j < l.length := by rw [Hn.out]; exact hlt
                obtain ⟨gb, off, rfl, _, y6⟩ := hat.out wr hk.out j hjl
                have hnd : ¬ l[j].d ≤ now := fun h => Hex.out ⟨j, hjl, h⟩
                obtain ⟨dd, hdd⟩ : ∃ dd, l[j].d = dd := ⟨_, rfl⟩
                rw [hdd] at y6 hnd
                have hnd2 : now < dd := by omega
                clear hdd hnd
                go_wp2
                go_roundw
                case rel => exact ⟨j + 1, by omega, by go_num, hk⟩
                case measure => simp [intOf]; omega
              · obtain rfl : j = i := by omega
                go_wp2
                go_ret
                exact ⟨rfl, hk.out⟩
          case pos =>
            obtain ⟨j0, hj0, hd0⟩ := hex
            obtain ⟨i0, ⟨h0, hd⟩, hlow⟩ := least (P := fun j => ∃ h : j < l.length, l[j].d ≤ now) j0 ⟨hj0, hd0⟩
            have hsm := ready_some HR.out.1 i0 h0 hd (fun j hj h => hlow j hj ⟨_, h⟩)
            have hxm : ({ l[i0] with id := ((i0 + 1 : Nat) : Int) } : ItemS) ∈ nextS 0 l := by
              obtain ⟨h2, e2⟩ := next_at l 0 i0 h0
              have := List.getElem_mem h2
              rw [e2, Nat.zero_add] at this
              exact this
            have hxr : rightS { l[i0] with id := ((i0 + 1 : Nat) : Int) } = true := HR.out.1 l[i0] (List.getElem_mem h0)
            have hxt : l[i0].tx.length ≤ 500 := HR.out.2.1 l[i0] (List.getElem_mem h0)
            obtain ⟨x1, hx1⟩ : ∃ x1 : ItemS, { l[i0] with id := ((i0 + 1 : Nat) : Int) } = x1 := ⟨_, rfl⟩
            rw [hsm] at hrd
            replace hrd : Calls Tryz.prog 21 #[.pointer (some ⟨N, 0, none⟩), .int .i64 now] w5 fun e w' => e = .returned (.tuple #[itemV { l[i0] with id := ((i0 + 1 : Nat) : Int) }, .bool true]) ∧ Below w5.heap.size w5 w' := hrd
            rw [hx1] at hrd hxm hxr
            have h1i : x1.id = ((i0 + 1 : Nat) : Int) := by rw [← hx1]
            have h1d : x1.d ≤ now := by rw [← hx1]; exact hd
            have h1t : x1.tx.length ≤ 500 := by rw [← hx1]; exact hxt
            unfold itemV at hrd
            rw [h1i, show (((i0 + 1 : Nat) : Int)) = (i0 : Int) + 1 from rfl] at hrd
            obtain ⟨F, hF⟩ : ∃ X, textQ x1.fr = X := ⟨_, rfl⟩
            obtain ⟨O, hO⟩ : ∃ X, textQ x1.to = X := ⟨_, rfl⟩
            obtain ⟨X, hX⟩ : ∃ X, textQ x1.tx = X := ⟨_, rfl⟩
            rw [hF, hO, hX] at hrd
            have HX1 := Lib.hid (And.intro hxm (And.intro h1i (And.intro h1t (And.intro hxr h1d))))
            have HFT := Lib.hid (And.intro hF (And.intro hO hX))
            have HLow := Lib.hid (show (∀ k, k < i0 → ¬ ∃ h : k < l.length, l[k].d ≤ now) ∧ ∃ h : i0 < l.length, l[i0].d ≤ now from ⟨hlow, h0, hd⟩)
            have hi0 : i0 < i := by rw [← Hn.out]; exact h0
            have hxt5 := (right_of (right_sizes hxr).2.2.2).2.2.2
            clear hj0 hd0 hsm hxm hxr hxt hx1 h1i h1d h1t hF hO hX hlow hd h0
            go_wp2_with fail
            refine hrd.mono ?_
            rintro e w6 ⟨rfl, hb6⟩
            obtain ⟨w7, hw7⟩ : ∃ V, w6.alloc (.cells #[.int .i64 ((i0 : Int) + 1), .string F, .string O, .string X, .int .i64 x1.b, .int .i64 x1.t, .int .i64 x1.d] 44) = V := ⟨_, rfl⟩
            have b7 : Below w6.heap.size w6 w7 := by rw [← hw7]; exact (Below.refl _ _).alloc (Nat.le_refl _) _
            have i7 : ItAt w7 w6.heap.size ((i0 : Int) + 1) F O X x1.b x1.t x1.d := by rw [← hw7]; exact it_new w6 _ _ _ _ _ _ _
            have q7 := K5.out.below (hb6.trans (b7.mono hb6.size))
            have hN6 := K5.out.s.s.ltN
            have hz56 := hb6.size
            have HNX : Hid (w6.heap.size ≠ N ∧ ¬ mineD Nd g w6.heap.size) := Lib.hid ⟨by have := hN6.1; omega, fun h => by have := (hN6.2.2 _ h).2; omega⟩
            have L7 := Lib.hid (And.intro q7 i7)
            clear hrd hb6 b7 i7 q7 hN6 hz56
            go_wp2
            go_loopw [13] (fun jv wr => ∃ j : Nat, j ≤ i0 ∧ jv = .int .i64 j ∧ Hid (LawQ w1 wr N Nd g 2048 u 1 d4 (behindP [] (addS 0 l)) (nextS 0 l) i ∧ ItAt wr w6.heap.size ((i0 : Int) + 1) F O X x1.b x1.t x1.d)) (fun jv _ => i - (intOf jv).toNat)
            case atStart => exact ⟨0, by omega, rfl, L7⟩
            case round =>
              clear L7
              obtain ⟨j, hj, rfl, hk⟩ := hrel
              have hji : j < i := by omega
              have hjl : j < l.length := by rw [Hn.out]; exact hji
              obtain ⟨gb, off, rfl, _, y6⟩ := hat.out wr (KW.out.trans (hk.out.1.s.lo.mono KW.out.size)) j hjl
              by_cases hlt : j < i0
              · have hnd : ¬ l[j].d ≤ now := fun h => HLow.out.1 j hlt ⟨hjl, h⟩
                obtain ⟨dd, hdd⟩ : ∃ dd, l[j].d = dd := ⟨_, rfl⟩
                rw [hdd] at y6 hnd
                have hnd2 : now < dd := by omega
                clear hdd hnd
                go_wp2
                go_roundw
                case rel => exact ⟨j + 1, by omega, by go_num, hk⟩
                case measure => simp [intOf]; omega
              · obtain rfl : j = i0 := by omega
                have hyd : l[j].d ≤ now := by
                  obtain ⟨_, h⟩ := HLow.out.2
                  exact h
                obtain ⟨dd, hdd⟩ : ∃ dd, l[j].d = dd := ⟨_, rfl⟩
                rw [hdd] at y6 hyd
                obtain ⟨c0, c1, c2, c3, c4, c5, c6, _⟩ := hk.out.2.cells
                clear hdd
                rcases fail_ready HX1.out.2.2.2.1 HX1.out.2.2.2.2 with ⟨ha1, ha2⟩ | ha1 | ⟨ha1, ha2, ha3⟩
                · have hfl := lawq_fail_err hk.out.1 x1 HX1.out.1 (j + 1) HX1.out.2.1 now _ _ _ ha1 (by decide)
                  unfold chV at hfl
                  rw [show textQ [] = (⟨#[]⟩ : ByteArray) from rfl, show (((j + 1 : Nat) : Int)) = (j : Int) + 1 from rfl] at hfl
                  have HK := Lib.hid (And.intro hk.out.1 ha2)
                  clear ha1 ha2
                  go_wp2_with fail
                  refine hfl.mono ?_
                  rintro e w8 ⟨rfl, hb8⟩
                  have Fin : Hid (Below w.heap.size w (w8.alloc (.cells #[.string ⟨#[]⟩, .string ⟨#[]⟩, .bool false] 50))) := Lib.hid (KW.out.trans ((HK.out.1.below (hb8.alloc hb8.size _)).s.lo.mono KW.out.size))
                  have hgt := HK.out.2
                  clear hfl hb8
                  go_wp2
                  go_ret
                  exact ⟨rfl, Fin.out⟩
                · have hfl := lawq_fail_over hk.out.1 x1 HX1.out.1 (j + 1) HX1.out.2.1 now _ ha1
                  unfold chV at hfl
                  rw [show textQ [] = (⟨#[]⟩ : ByteArray) from rfl, show (((j + 1 : Nat) : Int)) = (j : Int) + 1 from rfl] at hfl
                  obtain ⟨KT, hKT⟩ : ∃ K, textQ (keyS (j + 1)) = K := ⟨_, rfl⟩
                  rw [hKT] at hfl
                  have HKT := Lib.hid hKT
                  have hjm : j + 1 ≤ 99999999 := by omega
                  have HJ := Lib.hid hjm
                  clear ha1 hKT hjm
                  go_wp2_with fail
                  refine hfl.mono ?_
                  rintro e w8 ⟨rfl, hb8⟩
                  obtain ⟨w9, hw9⟩ : ∃ V, w8.alloc (.cells #[.string KT, .string ⟨#[]⟩, .bool true] 50) = V := ⟨_, rfl⟩
                  have b9 : Below w8.heap.size w8 w9 := by rw [← hw9]; exact (Below.refl _ _).alloc (Nat.le_refl _) _
                  have c9 : ChAt w9 w8.heap.size KT ⟨#[]⟩ true := by rw [← hw9]; exact heap_alloc_new w8 _
                  have b79 := hb8.trans (b9.mono hb8.size)
                  have q9 := hk.out.1.below b79
                  have i9 := hk.out.2.below b79
                  have hcm := lawq_one q9 (by omega) (keyS (j + 1)) [] true ⟨by rw [key_len HJ.out]; omega, by simp⟩
                  have hfd := queue_drop q9.q (n := j + 1) HJ.out []
                  have hsz : (printL [⟨keyS (j + 1), [], true⟩]).length ≤ 20 := by
                    rw [print_cons]
                    have h2 : (⟨keyS (j + 1), [], true⟩ : Ch).key.length = 10 := key_len HJ.out
                    have h3 := says_le ⟨keyS (j + 1), [], true⟩
                    have h4 : (⟨keyS (j + 1), [], true⟩ : Ch).val.length = 0 := rfl
                    have h5 : (printL []).length = 0 := rfl
                    omega
                  have hu4 := HR.out.2.2.2.2.1
                  rw [commit_room (fun c hc => by
                    rw [List.mem_singleton.1 hc]
                    exact ⟨by show (keyS (j + 1)).length ≤ _; rw [key_len HJ.out]; omega, by simp⟩) (by simp) (by unfold secN; omega)] at hcm
                  rw [HKT.out, show textQ [] = (⟨#[]⟩ : ByteArray) from rfl] at hcm
                  have hdl := drop_len q9.q.rise HX1.out.1
                  rw [next_len, Hn.out, HX1.out.2.1] at hdl
                  obtain ⟨m, hm⟩ : ∃ m, ((nextS 0 l).filter fun z => !(z.id == ((j + 1 : Nat) : Int))).length = m := ⟨_, rfl⟩
                  rw [hm] at hdl
                  have hmi : (i : Int) - 1 = (m : Int) := by omega
                  obtain ⟨k0, k1, k2, _⟩ := c9.cells
                  have HQ := Lib.hid (And.intro hfd (And.intro hm (And.intro hmi (And.intro i9 (show m ≤ 100 by omega)))))
                  have z9 := i9.lt
                  have HZ := Lib.hid (show w6.heap.size < w9.heap.size from i9.lt)
                  clear hfl hb8 b9 c9 b79 q9 i9 hfd hsz hu4 hdl hm hmi z9
                  go_wp2_with fail
                  refine hcm.mono ?_
                  rintro e w10 ⟨d10, rfl, hl10, _, ht10⟩
                  have q10 : LawQ w1 w10 N Nd g 2048 _ 2 d10 _ _ i := ⟨hl10, HQ.out.1, hk.out.1.pw⟩
                  have i10 : ItAt w10 w6.heap.size ((j : Int) + 1) F O X x1.b x1.t x1.d := turned_cells ht10 (HQ.out.2.2.2.1.below ((Below.refl _ _).alloc (Nat.le_refl _) _)) (fun e => HNX.out.1 e) HNX.out.2
                  have hgn := lawq_gone q10 (j + 1) HJ.out drop_gone
                  rw [show (((j + 1 : Nat) : Int)) = (j : Int) + 1 from rfl] at hgn
                  have K10 := Lib.hid q10
                  clear hcm hl10 ht10 q10 k0 k1 k2 hw9 c0 c1 c2 c3 c4 c5 c6
                  obtain ⟨c0, c1, c2, c3, c4, c5, c6, _⟩ := i10.cells
                  clear i10
                  go_wp2_with fail
                  refine hgn.mono ?_
                  rintro e w11 ⟨rfl, hb11⟩
                  have q12 := K10.out.below (W' := w11.alloc (.cells #[.int .i64 0, .string ⟨#[]⟩, .string ⟨#[]⟩, .string ⟨#[]⟩, .int .i64 0, .int .i64 0, .int .i64 0] 44)) (hb11.alloc hb11.size _)
                  have hls : Calls Tryz.prog 19 #[.pointer (some ⟨N, 0, none⟩)] (w11.alloc (.cells #[.int .i64 0, .string ⟨#[]⟩, .string ⟨#[]⟩, .string ⟨#[]⟩, .int .i64 0, .int .i64 0, .int .i64 0] 44)) fun e w' => ∃ ao cap, e = .returned (.slice ao m cap) ∧ Below (w11.alloc (.cells #[.int .i64 0, .string ⟨#[]⟩, .string ⟨#[]⟩, .string ⟨#[]⟩, .int .i64 0, .int .i64 0, .int .i64 0] 44)).heap.size (w11.alloc (.cells #[.int .i64 0, .string ⟨#[]⟩, .string ⟨#[]⟩, .string ⟨#[]⟩, .int .i64 0, .int .i64 0, .int .i64 0] 44)) w' := (lawq_list q12 (by omega) (by rw [HQ.out.2.1]; have := HQ.out.2.2.2.2; omega)).mono fun e w' ⟨v, h1, h2, h3⟩ => by
                    unfold ItemsOwn at h2
                    rw [HQ.out.2.1] at h2
                    obtain ⟨ao, cap, rfl⟩ := row_slice h2
                    exact ⟨ao, cap, h1, h3⟩
                  have K12 := Lib.hid (KW.out.trans (q12.s.lo.mono KW.out.size))
                  have hmi := HQ.out.2.2.1
                  clear hgn hb11 q12 K10 c0 c1 c2 c3 c4 c5 c6
                  go_wp2_with fail
                  refine hls.mono ?_
                  rintro e w13 ⟨ao13, cap13, rfl, hb13⟩
                  have Fin := Lib.hid (K12.out.trans (hb13.mono K12.out.size))
                  clear hls hb13
                  go_wp2
                  go_ret
                  exact ⟨rfl, Fin.out⟩
                · obtain ⟨x2, hx2⟩ : ∃ x2 : ItemS, { x1 with b := x1.b, t := x1.t + 1, d := now + waitT x1.t } = x2 := ⟨_, rfl⟩
                  have hfl := lawq_fail_again hk.out.1 x1 HX1.out.1 (j + 1) HX1.out.2.1 now x1.b (x1.t + 1) (now + waitT x1.t) ha1 ha2
                  rw [hx2] at hfl ha2 ha3
                  unfold chV at hfl
                  rw [show (((j + 1 : Nat) : Int)) = (j : Int) + 1 from rfl] at hfl
                  obtain ⟨KT, hKT⟩ : ∃ K, textQ (keyS (j + 1)) = K := ⟨_, rfl⟩
                  obtain ⟨VT, hVT⟩ : ∃ K, textQ (textS x2) = K := ⟨_, rfl⟩
                  rw [hKT, hVT] at hfl
                  have HKT := Lib.hid (And.intro hKT hVT)
                  have hjm : j + 1 ≤ 99999999 := by omega
                  have HJ := Lib.hid hjm
                  have h2i : x2.id = ((j + 1 : Nat) : Int) := by rw [← hx2]; exact HX1.out.2.1
                  have h2t : x2.t = x1.t + 1 := by rw [← hx2]
                  have h2x : x2.tx = x1.tx := by rw [← hx2]
                  have h2f : x2.fr = x1.fr := by rw [← hx2]
                  have h2o : x2.to = x1.to := by rw [← hx2]
                  have HY := Lib.hid (And.intro ha2 (And.intro ha3 (And.intro h2i (And.intro h2t (And.intro h2x (And.intro h2f h2o))))))
                  clear ha1 ha2 ha3 hx2 hKT hVT hjm h2i h2t h2x h2f h2o
                  go_wp2_with fail
                  refine hfl.mono ?_
                  rintro e w8 ⟨rfl, hb8⟩
                  have c9 : ChAt (w8.alloc (.cells #[.string KT, .string VT, .bool false] 50)) w8.heap.size KT VT false := heap_alloc_new w8 _
                  have b79 : Below wr.heap.size wr (w8.alloc (.cells #[.string KT, .string VT, .bool false] 50)) := hb8.alloc hb8.size _
                  have q9 := hk.out.1.below b79
                  have i9 := hk.out.2.below b79
                  have hft := put_fits (n := j + 1) HY.out.1 HJ.out
                  have hcm := lawq_one q9 (by omega) (keyS (j + 1)) (textS x2) false hft
                  have hfd := queue_again q9.q (n := j + 1) HX1.out.1 HX1.out.2.1 HY.out.1 HY.out.2.2.1
                  have hlen : secN (printL [⟨keyS (j + 1), textS x2, false⟩]).length ≤ 25 := by
                    obtain ⟨r1, r2, _, _⟩ := right_sizes HY.out.1
                    have r3 : x2.tx.length ≤ 500 := by rw [HY.out.2.2.2.2.1]; exact HX1.out.2.2.1
                    have h1 : (printL [⟨keyS (j + 1), textS x2, false⟩]).length ≤ 1100 := by
                      rw [print_cons]
                      have h2 : (⟨keyS (j + 1), textS x2, false⟩ : Ch).key.length = 10 := key_len HJ.out
                      have h3 := says_le ⟨keyS (j + 1), textS x2, false⟩
                      have h4 : (⟨keyS (j + 1), textS x2, false⟩ : Ch).val.length = 30 + x2.fr.length + x2.to.length + x2.tx.length := text_lenS x2
                      have h5 : (printL []).length = 0 := rfl
                      omega
                    unfold secN
                    omega
                  have hu4 := HR.out.2.2.2.2.1
                  rw [commit_room (fun c hc => by
                    rw [List.mem_singleton.1 hc]
                    exact hft) (by simp) (by omega)] at hcm
                  rw [HKT.out.1, HKT.out.2, World.size_alloc] at hcm
                  obtain ⟨k0, k1, k2, _⟩ := c9.cells
                  have HQ := Lib.hid (And.intro hfd i9)
                  clear hfl hb8 c9 b79 q9 i9 hft hfd hlen hu4
                  go_wp2_with fail
                  refine hcm.mono ?_
                  rintro e w10 ⟨d10, rfl, hl10, _, ht10⟩
                  have q10 : LawQ w1 w10 N Nd g 2048 _ 2 d10 _ _ i := ⟨hl10, HQ.out.1, hk.out.1.pw⟩
                  have i10 : ItAt w10 w6.heap.size ((j : Int) + 1) F O X x1.b x1.t x1.d := turned_cells ht10 (HQ.out.2.below ((Below.refl _ _).alloc (Nat.le_refl _) _)) (fun e => HNX.out.1 e) HNX.out.2
                  have hm2 : x2 ∈ (nextS 0 l).map fun z => if z.id = ((j + 1 : Nat) : Int) then x2 else z := List.mem_map.2 ⟨x1, HX1.out.1, by rw [if_pos HX1.out.2.1]⟩
                  have hgt := lawq_get q10 x2 hm2 (j + 1) HY.out.2.2.1
                  unfold itemV at hgt
                  rw [HY.out.2.2.1, HY.out.2.2.2.1, HY.out.2.2.2.2.1, HY.out.2.2.2.2.2.1, HY.out.2.2.2.2.2.2, HFT.out.1, HFT.out.2.1, HFT.out.2.2, show (((j + 1 : Nat) : Int)) = (j : Int) + 1 from rfl] at hgt
                  have hln : ((nextS 0 l).map fun z => if z.id = ((j + 1 : Nat) : Int) then x2 else z).length = i := by rw [List.length_map, next_len, Hn.out]
                  obtain ⟨L2, hL2⟩ : ∃ L2, ((nextS 0 l).map fun z => if z.id = ((j + 1 : Nat) : Int) then x2 else z) = L2 := ⟨_, rfl⟩
                  have hne : ∀ z, L2.find? (readyS now) = some z → z.id ≠ ((j + 1 : Nat) : Int) := fun z hz => by
                    rw [← hL2] at hz
                    exact ready_again HY.out.2.1 hz
                  rw [hL2] at q10 hln
                  have K10 := Lib.hid (And.intro q10 (And.intro hln (And.intro hne i10)))
                  clear hcm hl10 ht10 q10 hm2 hln hne hL2 k0 k1 k2 c0 c1 c2 c3 c4 c5 c6
                  obtain ⟨c0, c1, c2, c3, c4, c5, c6, _⟩ := i10.cells
                  clear i10
                  go_wp2_with fail
                  refine hgt.mono ?_
                  rintro e w11 ⟨rfl, hb11⟩
                  obtain ⟨w12, hw12⟩ : ∃ V, w11.alloc (.cells #[.int .i64 ((j : Int) + 1), .string F, .string O, .string X, .int .i64 x2.b, .int .i64 (x1.t + 1), .int .i64 x2.d] 44) = V := ⟨_, rfl⟩
                  have b12 : Below w11.heap.size w11 w12 := by rw [← hw12]; exact (Below.refl _ _).alloc (Nat.le_refl _) _
                  have i12 : ItAt w12 w11.heap.size ((j : Int) + 1) F O X x2.b (x1.t + 1) x2.d := by rw [← hw12]; exact it_new w11 _ _ _ _ _ _ _
                  have b1012 := hb11.trans (b12.mono hb11.size)
                  have q12 := K10.out.1.below b1012
                  have hrd2 := lawq_ready q12 (by omega) (by rw [K10.out.2.1]; omega) now
                  have K12 := Lib.hid (And.intro q12 (And.intro (K10.out.2.2.2.below b1012) i12))
                  clear hgt hb11 b12 i12 b1012 q12 c0 c1 c2 c3 c4 c5 c6
                  rcases hfz : L2.find? (readyS now) with _ | z
                  · rw [hfz] at hrd2
                    replace hrd2 : Calls Tryz.prog 21 #[.pointer (some ⟨N, 0, none⟩), .int .i64 now] w12 fun e w' => e = .returned (.tuple #[itemW 0 ⟨#[]⟩ ⟨#[]⟩ ⟨#[]⟩ 0 0 0, .bool false]) ∧ Below w12.heap.size w12 w' := hrd2
                    clear hfz
                    go_wp2_with fail
                    refine hrd2.mono ?_
                    rintro e w13 ⟨rfl, hb13⟩
                    have b1214 : Below w12.heap.size w12 (w13.alloc (.cells #[.int .i64 0, .string ⟨#[]⟩, .string ⟨#[]⟩, .string ⟨#[]⟩, .int .i64 0, .int .i64 0, .int .i64 0] 44)) := hb13.alloc hb13.size _
                    have q14 := K12.out.1.below b1214
                    have i14 := K12.out.2.1.below b1214
                    have j14 := K12.out.2.2.below b1214
                    clear b1214
                    have hls : Calls Tryz.prog 19 #[.pointer (some ⟨N, 0, none⟩)] (w13.alloc (.cells #[.int .i64 0, .string ⟨#[]⟩, .string ⟨#[]⟩, .string ⟨#[]⟩, .int .i64 0, .int .i64 0, .int .i64 0] 44)) fun e w' => ∃ ao cap, e = .returned (.slice ao i cap) ∧ Below ((w13.alloc (.cells #[.int .i64 0, .string ⟨#[]⟩, .string ⟨#[]⟩, .string ⟨#[]⟩, .int .i64 0, .int .i64 0, .int .i64 0] 44))).heap.size (w13.alloc (.cells #[.int .i64 0, .string ⟨#[]⟩, .string ⟨#[]⟩, .string ⟨#[]⟩, .int .i64 0, .int .i64 0, .int .i64 0] 44)) w' := (lawq_list q14 (by omega) (by rw [K10.out.2.1]; omega)).mono fun e w' ⟨v, h1, h2, h3⟩ => by
                      unfold ItemsOwn at h2
                      rw [K10.out.2.1] at h2
                      obtain ⟨ao, cap, rfl⟩ := row_slice h2
                      exact ⟨ao, cap, h1, h3⟩
                    have L14 := Lib.hid (KW.out.trans (q14.s.lo.mono KW.out.size))
                    obtain ⟨c0, c1, c2, c3, c4, c5, c6, _⟩ := i14.cells
                    obtain ⟨e0, e1, e2, e3, e4, e5, e6, _⟩ := j14.cells
                    clear hrd2 hb13 q14 i14 j14
                    go_wp2_with fail
                    refine hls.mono ?_
                    rintro e w15 ⟨ao15, cap15, rfl, hb15⟩
                    have Fin := Lib.hid (L14.out.trans (hb15.mono L14.out.size))
                    clear hls hb15
                    go_wp2
                    go_ret
                    exact ⟨rfl, Fin.out⟩
                  · rw [hfz] at hrd2
                    have hzn := K10.out.2.2.1 z hfz
                    replace hrd2 : Calls Tryz.prog 21 #[.pointer (some ⟨N, 0, none⟩), .int .i64 now] w12 fun e w' => e = .returned (.tuple #[itemV z, .bool true]) ∧ Below w12.heap.size w12 w' := hrd2
                    unfold itemV at hrd2
                    obtain ⟨F2, hF2⟩ : ∃ X, textQ z.fr = X := ⟨_, rfl⟩
                    obtain ⟨O2, hO2⟩ : ∃ X, textQ z.to = X := ⟨_, rfl⟩
                    obtain ⟨X2, hX2⟩ : ∃ X, textQ z.tx = X := ⟨_, rfl⟩
                    rw [hF2, hO2, hX2] at hrd2
                    have hzn2 : z.id ≠ (j : Int) + 1 := hzn
                    clear hfz hzn hF2 hO2 hX2
                    go_wp2_with fail
                    refine hrd2.mono ?_
                    rintro e w13 ⟨rfl, hb13⟩
                    obtain ⟨w14, hw14⟩ : ∃ V, w13.alloc (.cells #[.int .i64 z.id, .string F2, .string O2, .string X2, .int .i64 z.b, .int .i64 z.t, .int .i64 z.d] 44) = V := ⟨_, rfl⟩
                    have b14 : Below w13.heap.size w13 w14 := by rw [← hw14]; exact (Below.refl _ _).alloc (Nat.le_refl _) _
                    have z14 : ItAt w14 w13.heap.size z.id F2 O2 X2 z.b z.t z.d := by rw [← hw14]; exact it_new w13 _ _ _ _ _ _ _
                    have b1214 := hb13.trans (b14.mono hb13.size)
                    have q14 := K12.out.1.below b1214
                    have i14 := K12.out.2.1.below b1214
                    have j14 := K12.out.2.2.below b1214
                    have HZ2 := Lib.hid z14
                    clear b1214 b14 z14
                    have hls : Calls Tryz.prog 19 #[.pointer (some ⟨N, 0, none⟩)] w14 fun e w' => ∃ ao cap, e = .returned (.slice ao i cap) ∧ Below (w14).heap.size w14 w' := (lawq_list q14 (by omega) (by rw [K10.out.2.1]; omega)).mono fun e w' ⟨v, h1, h2, h3⟩ => by
                      unfold ItemsOwn at h2
                      rw [K10.out.2.1] at h2
                      obtain ⟨ao, cap, rfl⟩ := row_slice h2
                      exact ⟨ao, cap, h1, h3⟩
                    have L14 := Lib.hid (KW.out.trans (q14.s.lo.mono KW.out.size))
                    obtain ⟨c0, c1, c2, c3, c4, c5, c6, _⟩ := i14.cells
                    obtain ⟨e0, e1, e2, e3, e4, e5, e6, _⟩ := j14.cells
                    have HI14 := Lib.hid i14
                    clear hrd2 hb13 q14 i14 j14
                    go_wp2_with fail
                    refine hls.mono ?_
                    rintro e w15 ⟨ao15, cap15, rfl, hb15⟩
                    obtain ⟨f0, _⟩ := (HZ2.out.below hb15).cells
                    obtain ⟨c0, c1, c2, c3, c4, c5, c6, _⟩ := (HI14.out.below hb15).cells
                    have Fin := Lib.hid (L14.out.trans (hb15.mono L14.out.size))
                    clear hls hb15
                    clear HZ2 HI14
                    have hne : (z.id != (j : Int) + 1) = true := by simpa using hzn2
                    have HNE := Lib.hid hne
                    clear hne
                    go_wp2
                    go_ret
                    refine ⟨?_, Fin.out⟩
                    show Ending.returned (Value.bool (z.id != (j : Int) + 1)) = _
                    rw [HNE.out]
end Go.Proofs.YtgpdplffljidbaaGreatDoor
