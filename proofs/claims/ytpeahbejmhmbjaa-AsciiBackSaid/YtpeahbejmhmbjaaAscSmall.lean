/-
  The law file's own 'small' (hagioscopelaw02): it answers true, and leaves what was there as it was.
-/
import Derived.Test.YtpeahbejmhmbjaaAscTrim
import Derived.Test.YtpeahbejmhmbjaaAscNum
namespace Go.Proofs.Ytpeahbejmhmbjaa.Asc
open Go.RowKit Go.Proofs.Ytpeahbejmhmbjaa.Wd

set_option maxRecDepth 100000 in
set_option maxHeartbeats 2000000 in
theorem small_any (w : World) : Calls Try.prog 9 #[] w fun e w' => e = .returned (.bool true) ∧ Below w.heap.size w w' := by
  have e1 := Lib.hid (show numS (bs ⟨#[49, 50, 48]⟩) 120 = some 120 by decide)
  have e2 := Lib.hid (show numS (bs ⟨#[48, 55]⟩) 9 = none by decide)
  have e3 := Lib.hid (show numS (bs ⟨#[57]⟩) 8 = none by decide)
  have e4 := Lib.hid (show hexS (bs ⟨#[102, 70]⟩) = some 255 by decide)
  have e5 := Lib.hid (show hexS (bs ⟨#[49, 50, 51, 52, 53]⟩) = none by decide)
  have e6 := Lib.hid (show lowS ⟨#[65, 196, 122, 91]⟩ = ⟨#[97, 196, 122, 91]⟩ by decide)
  have e7 := Lib.hid (show sameS ⟨#[65, 98]⟩ ⟨#[97, 66]⟩ = true by decide)
  have e8 := Lib.hid (show sameS ⟨#[97]⟩ ⟨#[98]⟩ = false by decide)
  have e9 := Lib.hid (show allS tokI (bs ⟨#[97, 45, 66, 46, 57]⟩) = true by decide)
  have e10 := Lib.hid (show allS tokI (bs ⟨#[97, 32, 98]⟩) = false by decide)
  have e11 := Lib.hid (show allS tokI (bs ⟨#[]⟩) = false by decide)
  have e12 := Lib.hid (show allS visI (bs ⟨#[97, 47, 126]⟩) = true by decide)
  have e13 := Lib.hid (show allS visI (bs ⟨#[97, 127]⟩) = false by decide)
  have e14 := Lib.hid (show trimS ⟨#[32, 9, 97, 32, 98, 9]⟩ = ⟨#[97, 32, 98]⟩ by decide)
  go_enter Try.func9, Try.ntmps9
  go_wp2_with fail
  refine (number_any _ _ w (by decide)).mono ?_
  rintro e w1 ⟨rfl, b1⟩
  rw [e1.out, dTup]
  go_wp2_with fail
  refine (number_any _ _ w1 (by decide)).mono ?_
  rintro e w2 ⟨rfl, b2⟩
  rw [e2.out, dTup]
  have c2 := b1.trans (b2.mono b1.size)
  clear b1 b2
  go_wp2_with fail
  refine (number_any _ _ w2 (by decide)).mono ?_
  rintro e w3 ⟨rfl, b3⟩
  rw [e3.out, dTup]
  have c3 := c2.trans (b3.mono c2.size)
  clear c2 b3
  go_wp2_with fail
  refine (hex_any _ w3 (by decide)).mono ?_
  rintro e w4 ⟨rfl, b4⟩
  rw [e4.out, dTup]
  have c4 := c3.trans (b4.mono c3.size)
  clear c3 b4
  go_wp2_with fail
  refine (hex_any _ w4 (by decide)).mono ?_
  rintro e w5 ⟨rfl, b5⟩
  rw [e5.out, dTup]
  have c5 := c4.trans (b5.mono c4.size)
  clear c4 b5
  go_wp2_with fail
  refine (lower_any _ w5).mono ?_
  rintro e w6 ⟨rfl, b6⟩
  rw [e6.out]
  have c6 := c5.trans (b6.mono c5.size)
  clear c5 b6
  go_wp2_with fail
  refine (same_any _ _ w6).mono ?_
  rintro e w7 ⟨rfl, b7⟩
  rw [e7.out]
  have c7 := c6.trans (b7.mono c6.size)
  clear c6 b7
  go_wp2_with fail
  refine (same_any _ _ w7).mono ?_
  rintro e w8 ⟨rfl, b8⟩
  rw [e8.out]
  have c8 := c7.trans (b8.mono c7.size)
  clear c7 b8
  go_wp2_with fail
  refine (token_any _ w8).mono ?_
  rintro e w9 ⟨rfl, b9⟩
  rw [e9.out]
  have c9 := c8.trans (b9.mono c8.size)
  clear c8 b9
  go_wp2_with fail
  refine (token_any _ w9).mono ?_
  rintro e w10 ⟨rfl, b10⟩
  rw [e10.out]
  have c10 := c9.trans (b10.mono c9.size)
  clear c9 b10
  go_wp2_with fail
  refine (token_any _ w10).mono ?_
  rintro e w11 ⟨rfl, b11⟩
  rw [e11.out]
  have c11 := c10.trans (b11.mono c10.size)
  clear c10 b11
  go_wp2_with fail
  refine (visible_any _ w11).mono ?_
  rintro e w12 ⟨rfl, b12⟩
  rw [e12.out]
  have c12 := c11.trans (b12.mono c11.size)
  clear c11 b12
  go_wp2_with fail
  refine (visible_any _ w12).mono ?_
  rintro e w13 ⟨rfl, b13⟩
  rw [e13.out]
  have c13 := c12.trans (b13.mono c12.size)
  clear c12 b13
  go_wp2_with fail
  refine (trim_any _ w13 (by decide)).mono ?_
  rintro e w14 ⟨rfl, b14⟩
  rw [e14.out]
  have c14 := c13.trans (b14.mono c13.size)
  clear c13 b14
  go_wp2_with fail
  go_ret
  exact ⟨rfl, c14⟩
end Go.Proofs.Ytpeahbejmhmbjaa.Asc
