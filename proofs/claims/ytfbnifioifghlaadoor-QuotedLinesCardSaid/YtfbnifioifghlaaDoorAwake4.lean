/-
  awake, the fourth law file's own call: true, and what it makes lies in memory of its own.
-/
import Derived.Test.YtfbnifioifghlaaDoorQDev
namespace Go.Proofs.YtfbnifioifghlaaDoor
open Go.RowKit

theorem wake4_dec : decQ [97, 61, 51, 68, 98, 13, 10, 99, 61, 50, 48] = some [97, 61, 98, 13, 10, 99, 32] := by decide +kernel
theorem wake4_none : decQ [97, 61, 51] = none := by decide +kernel
theorem wake4_enc : encQ [97, 61, 98, 13, 10, 99, 32] = [97, 61, 51, 68, 98, 13, 10, 99, 61, 50, 48] := by decide +kernel
theorem wake4_sign : signB 61 false = [61, 51, 68] := by decide +kernel

set_option maxRecDepth 100000 in
set_option maxHeartbeats 2000000 in
theorem awake4_any (m : Int) (w : World) (hm : w.cell? ⟨0, 0, none⟩ = some (.int .i64 m)) : Calls Tryd.prog 9 #[] w fun e w' => e = .returned (.bool true) ∧ Below w.heap.size w w' := by
  have D1 : Hid (∀ W, Below w.heap.size w W → Calls Tryd.prog 10 #[.string ⟨#[97, 61, 51, 68, 98, 13, 10, 99, 61, 50, 48]⟩] W fun e w' => e = .returned (.tuple #[.string ⟨#[97, 61, 98, 13, 10, 99, 32]⟩, .int .i64 0]) ∧ Below W.heap.size W w') := Lib.hid fun W hW => by
    have := q4dec_any ⟨#[97, 61, 51, 68, 98, 13, 10, 99, 61, 50, 48]⟩ m W (by decide) (bound_below hm hW)
    rw [show (⟨#[97, 61, 51, 68, 98, 13, 10, 99, 61, 50, 48]⟩ : ByteArray).data.toList = [97, 61, 51, 68, 98, 13, 10, 99, 61, 50, 48] from rfl, wake4_dec] at this
    exact this
  have D2 : Hid (∀ W, Below w.heap.size w W → Calls Tryd.prog 10 #[.string ⟨#[97, 61, 51]⟩] W fun e w' => e = .returned (.tuple #[.string ⟨#[]⟩, .int .i64 2]) ∧ Below W.heap.size W w') := Lib.hid fun W hW => by
    have := q4dec_any ⟨#[97, 61, 51]⟩ m W (by decide) (bound_below hm hW)
    rw [show (⟨#[97, 61, 51]⟩ : ByteArray).data.toList = [97, 61, 51] from rfl, wake4_none] at this
    exact this
  have E1 : Hid (∀ W, Below w.heap.size w W → Calls Tryd.prog 12 #[.string ⟨#[97, 61, 98, 13, 10, 99, 32]⟩] W fun e w' => e = .returned (.string ⟨#[97, 61, 51, 68, 98, 13, 10, 99, 61, 50, 48]⟩) ∧ Below W.heap.size W w') := Lib.hid fun W hW => by
    have := q4enc_any ⟨#[97, 61, 98, 13, 10, 99, 32]⟩ m W (by decide) (bound_below hm hW)
    rw [show (⟨#[97, 61, 98, 13, 10, 99, 32]⟩ : ByteArray).data.toList = [97, 61, 98, 13, 10, 99, 32] from rfl, wake4_enc] at this
    exact this
  have S1 : Hid (∀ W, Calls Tryd.prog 14 #[.int .u8 61, .bool false] W fun e w' => e = .returned (.string ⟨#[61, 51, 68]⟩) ∧ Below W.heap.size W w') := Lib.hid fun W => by
    have := q4sign_any 61 false W
    rw [wake4_sign] at this
    exact this
  go_enter Tryd.func9, Tryd.ntmps9
  go_wp2_with fail
  refine (D1.out _ (Below.refl _ _)).mono ?_
  rintro e wa ⟨rfl, ha⟩
  go_wp2_with fail
  refine (D2.out _ ha).mono ?_
  rintro e wb ⟨rfl, hb⟩
  have ab := ha.trans (hb.mono ha.size)
  clear ha hb
  go_wp2_with fail
  refine (E1.out _ ab).mono ?_
  rintro e wc ⟨rfl, hc⟩
  have ac := ab.trans (hc.mono ab.size)
  clear hc
  go_wp2_with fail
  refine (S1.out _).mono ?_
  rintro e wd ⟨rfl, hd⟩
  have ad := ac.trans (hd.mono ac.size)
  clear hd
  go_wp2
  go_ret
  exact ⟨rfl, ad⟩
end Go.Proofs.YtfbnifioifghlaaDoor
