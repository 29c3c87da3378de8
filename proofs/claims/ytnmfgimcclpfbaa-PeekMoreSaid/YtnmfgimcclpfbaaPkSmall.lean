/-
  law06's small case comes out right, over this seat's translation.
-/
import Derived.Test.YtnmfgimcclpfbaaPkAdd
namespace Go.Proofs.Ytnmfgimcclpfbaa.Pk
open Go.RowKit Go.Proofs.Ytnmfgimcclpfbaa.Wd

set_option maxHeartbeats 2000000 in
theorem small_any (w : World) : Calls Try.prog 8 #[] w fun e w' => e = .returned (.bool true) ∧ Below w.heap.size w w' := by
  go_enter Try.func8, Try.ntmps8
  go_wp2_with fail
  refine (new_kept 3 w w (Below.refl _ _) (Nat.le_refl _)).mono ?_
  rintro e w1 ⟨g, rfl, hr, -, -⟩
  have HR := Lib.hid (show Kept w.heap.size w w1 g none 3 [] 0 false from hr)
  clear hr
  have kc := Lib.run_convert_bytes_const (P := Try.prog) w1 29 5 #[.int .u8 97, .int .u8 98] 2 2 Try.underlying29 Try.underlying5
  go_wp2_with fail
  obtain ⟨hs, hbut⟩ := cst_world w1 #[.int .u8 97, .int .u8 98] (2, 2 + 1) [97, 98] rfl
  have hr2 := HR.out.same hbut
  clear kc HR hbut
  generalize w1.heap.size = o at *
  generalize w1.alloc _ = w2 at *
  refine (add_kept hr2 (by decide) _ 2 2 [97, 98] hs (Nat.le_refl _)).mono ?_
  rintro e w3 ⟨rfl, p3, hr3, -, -⟩
  rw [show ((roomK 3 ([] : List UInt8).length 2 : Nat) : Int) = 2 from rfl]
  have HR3 := Lib.hid (show Kept w.heap.size w w3 g p3 3 [97, 98] 0 false from hr3)
  clear hr2 hs hr3
  go_wp2_with fail
  refine (over_any HR3.out.pk).mono ?_
  rintro e w4 ⟨rfl, rfl⟩
  have kc := Lib.run_convert_bytes_const (P := Try.prog) w3 29 5 #[.int .u8 99, .int .u8 100] 2 2 Try.underlying29 Try.underlying5
  go_wp2_with fail
  obtain ⟨hs, hbut⟩ := cst_world w3 #[.int .u8 99, .int .u8 100] (2, 2 + 1) [99, 100] rfl
  have hr4 := HR3.out.same hbut
  clear kc HR3 hbut
  generalize w3.heap.size = o2 at *
  generalize w3.alloc _ = w4 at *
  refine (add_kept hr4 (by decide) _ 2 2 [99, 100] hs (Nat.le_refl _)).mono ?_
  rintro e w5 ⟨rfl, p5, hr5, -, -⟩
  rw [show ((roomK 3 ([97, 98] : List UInt8).length 2 : Nat) : Int) = 1 from rfl]
  have HR5 := Lib.hid (show Kept w.heap.size w w5 g p5 3 [97, 98, 99] 0 true from hr5)
  clear hr4 hs hr5
  go_wp2_with fail
  refine (next_kept HR5.out (by decide) 2).mono ?_
  rintro e w6 ⟨v6, rfl, ho6, hr6, -⟩
  have HR6 := Lib.hid (show Kept w.heap.size w w6 g p5 3 [97, 98, 99] 2 true from hr6)
  obtain ⟨A6, c6, rfl, -, hs6, hA6⟩ := (show Own w6 w5.heap.size v6 [97, 98] from ho6).cut_
  have HA6 := Lib.hid (show ∀ x, A6 = some x → x.block ≠ g from fun x hx => by have := hA6 x hx; have := HR5.out.pk.lt; omega)
  have HS6 := Lib.hid (show Src w6 A6 2 [97, 98] from hs6)
  rw [show ([97, 98] : List UInt8).length = 2 from rfl]
  clear ho6 hr6 hs6 HR5 hA6
  go_wp2_with fail
  refine (left_any HR6.out.pk (by decide)).mono ?_
  rintro e w7 ⟨rfl, q7, rfl⟩
  rw [show ((([97, 98, 99] : List UInt8).length - 2 : Nat) : Int) = 1 from rfl]
  have HR7 := Lib.hid (HR6.out.drewN q7)
  have HS7 := Lib.hid (show Src (w6.drewN q7) A6 2 [97, 98] from HS6.out)
  clear HR6 HS6
  generalize w6.drewN q7 = w7 at *
  go_wp2_with fail
  refine (back_kept HR7.out).mono ?_
  rintro e w8 ⟨rfl, hr8, hb8⟩
  have HR8 := Lib.hid hr8
  have HS8 := Lib.hid (HS7.out.but hb8 (fun _ x hx => by have := HA6.out x hx; simpa using this))
  clear hr8 hb8 HR7 HS7
  go_wp2_with fail
  refine (next_kept HR8.out (by decide) 9).mono ?_
  rintro e w9 ⟨v9, rfl, ho9, hr9, hb9⟩
  have HR9 := Lib.hid (show Kept w.heap.size w w9 g p5 3 [97, 98, 99] 3 true from hr9)
  obtain ⟨A9, c9, rfl, -, hs9, hA9⟩ := (show Own w9 w8.heap.size v9 [97, 98, 99] from ho9).cut_
  have HA9 := Lib.hid (show ∀ x, A9 = some x → x.block ≠ g from fun x hx => by have := hA9 x hx; have := HR8.out.pk.lt; omega)
  have HS9 := Lib.hid (show Src w9 A9 3 [97, 98, 99] from hs9)
  have hS9 := HS8.out.but hb9 (fun _ x hx => by have := HA6.out x hx; simpa using this)
  have k6 := con8 (c := c6) hS9
  rw [show ([97, 98, 99] : List UInt8).length = 3 from rfl]
  clear ho9 hr9 hs9 HR8 hA9 HS8 hb9 hS9
  go_wp2_with fail
  refine (over_any HR9.out.pk).mono ?_
  rintro e w10 ⟨rfl, rfl⟩
  have k9 := con8 (c := c9) HS9.out
  go_wp2_with fail
  refine (left_any HR9.out.pk (by decide)).mono ?_
  rintro e w10 ⟨rfl, q10, rfl⟩
  rw [show ((([97, 98, 99] : List UInt8).length - 3 : Nat) : Int) = 0 from rfl]
  have HR10 := Lib.hid (HR9.out.drewN q10)
  clear HR9 HS9 k6 k9
  generalize w9.drewN q10 = w10 at *
  go_wp2_with fail
  refine (bytes_kept HR10.out (by decide)).mono ?_
  rintro e w11 ⟨v11, rfl, ho11, hr11, -⟩
  obtain ⟨A11, c11, rfl, -, hs11, -⟩ := (show Own w11 w10.heap.size v11 [97, 98, 99] from ho11).cut_
  have k11 := con8 (n := 3) (c := c11) hs11
  have HR11 := Lib.hid hr11
  rw [show ([97, 98, 99] : List UInt8).length = 3 from rfl]
  clear ho11 hs11 hr11 HR10
  go_wp2_with fail
  refine (len_any HR11.out.pk).mono ?_
  rintro e w12 ⟨rfl, rfl⟩
  rw [show ((([97, 98, 99] : List UInt8).length : Nat) : Int) = 3 from rfl]
  clear k11
  go_wp2_with fail
  refine (next_kept HR11.out (by decide) (-1)).mono ?_
  rintro e w13 ⟨v13, rfl, ho13, hr13, -⟩
  obtain ⟨A13, c13, rfl, -, -, -⟩ := (show Own w13 w11.heap.size v13 [] from ho13).cut_
  have HB := Lib.hid hr13.bel
  rw [show ([] : List UInt8).length = 0 from rfl]
  clear ho13 hr13 HR11
  go_wp2_with fail
  go_ret
  exact ⟨rfl, HB.out⟩
end Go.Proofs.Ytnmfgimcclpfbaa.Pk
