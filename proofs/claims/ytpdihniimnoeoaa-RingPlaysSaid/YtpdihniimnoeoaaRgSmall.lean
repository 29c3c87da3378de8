/-
  law05's small case comes out right, over this seat's translation.
-/
import Derived.Test.YtpdihniimnoeoaaRgPush
namespace Go.Proofs.Ytpdihniimnoeoaa.Rg
open Go.RowKit Go.Proofs.Ytpdihniimnoeoaa.Wd

theorem conv8 {w : World} {A : Option Addr} {n c : Nat} {xs : List UInt8} (h : Src w A n xs) : (convert 29 9 (.slice A n c)).run Try.prog w = .ok (.string ⟨xs.toArray⟩) w :=
  conv_src h Try.underlying29 Try.underlying5 Try.underlying9
/-- the world behind a constant's bytes -/
theorem const_world (w : World) (C : Array Value) (fr : Nat × Nat) (xs : List UInt8) (h : C = (cellsOf xs).toArray) :
    Src (w.alloc (.cells C 5 fr)) (some ⟨w.heap.size, 0, none⟩) xs.length xs ∧ But [] w (w.alloc (.cells C 5 fr)) := ⟨Src.marked w C _ fr xs h, (But.refl [] w).alloc _⟩
theorem clamp_small : clampN 2 3 = 2 ∧ clampN 9 3 = 3 ∧ clampN (-1) 3 = 0 := by decide

set_option maxHeartbeats 2000000 in
theorem small_any (w : World) : Calls Try.prog 9 #[] w fun e w' => e = .returned (.bool true) ∧ Below w.heap.size w w' := by
  go_enter Try.func9, Try.ntmps9
  go_wp2_with fail
  refine (new_held 3 w w (Below.refl _ _) (Nat.le_refl _)).mono ?_
  rintro e w1 ⟨g, p, rfl, hr, hb, hg, hp⟩
  have HR := Lib.hid (show Held w.heap.size w w1 g p 3 [] from hr)
  have hlt := hr.rg.lt
  clear hr hb
  have kc := Lib.run_convert_bytes_const (P := Try.prog) w1 29 5 #[.int .u8 97, .int .u8 98, .int .u8 99, .int .u8 100] 4 4 Try.underlying29 Try.underlying5
  go_wp2_with fail
  obtain ⟨hs, hbut⟩ := const_world w1 #[.int .u8 97, .int .u8 98, .int .u8 99, .int .u8 100] (4, 4 + 1) [97, 98, 99, 100] rfl
  have hr2 := HR.out.same hbut
  have hsz := hbut.size
  clear kc HR hbut
  generalize w1.heap.size = o at *
  generalize w1.alloc _ = w2 at *
  refine (push_held hr2 (by omega) _ 4 4 [97, 98, 99, 100] hs (Nat.le_refl _) (fun _ x hx => by injection hx with hx; subst hx; exact ⟨by show o ≠ g; omega, by show o ≠ p; omega⟩)).mono ?_
  rintro e w3 ⟨rfl, hr3, -⟩
  rw [show ((roomN 3 ([] : List UInt8).length 4 : Nat) : Int) = 3 from rfl]
  have HR3 := Lib.hid (show Held w.heap.size w w3 g p 3 [97, 98, 99] from hr3)
  clear hr2 hs hsz hr3 w2
  go_wp2_with fail
  refine (full_any g p 3 _ w3 HR3.out.rg (by omega)).mono ?_
  rintro e w4 ⟨rfl, q, rfl⟩
  rw [show fullB 3 ([97, 98, 99] : List UInt8).length = true from rfl]
  have HR4 := Lib.hid (HR3.out.drewN q)
  clear HR3
  generalize w3.drewN q = w4 at *
  go_wp2_with fail
  refine (pop_held HR4.out (by omega) 2).mono ?_
  rintro e w5 ⟨o2, rfl, hf5, hr5, -⟩
  have HF5 := Lib.hid (show Fresh w4 w5 o2 [97, 98] from hf5)
  have HR5 := Lib.hid (show Held w.heap.size w w5 g p 3 [99] from hr5)
  rw [show (([97, 98, 99] : List UInt8).take (clampN 2 ([97, 98, 99] : List UInt8).length)).length = 2 from rfl]
  have hlt5 := hr5.rg.lt
  have hlt4 := HR4.out.rg.lt
  have ho2 := hf5.1
  clear hf5 hr5 HR4
  have kc := Lib.run_convert_bytes_const (P := Try.prog) w5 29 5 #[.int .u8 101, .int .u8 102] 2 2 Try.underlying29 Try.underlying5
  go_wp2_with fail
  obtain ⟨hs, hbut⟩ := const_world w5 #[.int .u8 101, .int .u8 102] (2, 2 + 1) [101, 102] rfl
  have hr6 := HR5.out.same hbut
  have hsz := hbut.size
  have HF6 := Lib.hid (HF5.out.src.same hbut)
  have hlto := HF5.out.2.lt
  clear kc HR5 hbut HF5
  generalize w5.heap.size = o3 at *
  generalize w5.alloc _ = w6 at *
  refine (push_held hr6 (by omega) _ 2 2 [101, 102] hs (Nat.le_refl _) (fun _ x hx => by injection hx with hx; subst hx; exact ⟨by show o3 ≠ g; omega, by show o3 ≠ p; omega⟩)).mono ?_
  rintro e w7 ⟨rfl, hr7, hb7⟩
  rw [show ((roomN 3 ([99] : List UInt8).length 2 : Nat) : Int) = 2 from rfl]
  have HR7 := Lib.hid (show Held w.heap.size w w7 g p 3 [99, 101, 102] from hr7)
  have HF7 := Lib.hid (HF6.out.but hb7 (fun _ x hx => by injection hx with hx; subst hx; show o2 ∉ [g, p]; simp; omega))
  clear hr6 hs hsz hr7 hb7 HF6 w6
  go_wp2_with fail
  refine (see_held HR7.out (by omega) 9).mono ?_
  rintro e w8 ⟨o4, rfl, hf8, hr8, hb8⟩
  have HF8 := Lib.hid (show Fresh w7 w8 o4 [99, 101, 102] from hf8)
  have HR8 := Lib.hid hr8
  have HG8 := Lib.hid (HF7.out.same hb8)
  have hlt7 := HR7.out.rg.lt
  have ho4 := hf8.1
  rw [show (([99, 101, 102] : List UInt8).take (clampN 9 ([99, 101, 102] : List UInt8).length)).length = 3 from rfl]
  clear hf8 hr8 hb8 HF7 HR7
  go_wp2_with fail
  refine (len_any g p 3 _ w8 HR8.out.rg).mono ?_
  rintro e w9 ⟨rfl, rfl⟩
  rw [show ((([99, 101, 102] : List UInt8).length : Nat) : Int) = 3 from rfl]
  go_wp2_with fail
  refine (pop_held HR8.out (by omega) (-1)).mono ?_
  rintro e w10 ⟨o5, rfl, -, hr10, hb10⟩
  have HR10 := Lib.hid (show Held w.heap.size w w10 g p 3 [99, 101, 102] from hr10)
  have HF10 := Lib.hid (HF8.out.src.but hb10 (fun _ x hx => by injection hx with hx; subst hx; show o4 ∉ [g]; simp; omega))
  have HG10 := Lib.hid (HG8.out.but hb10 (fun _ x hx => by injection hx with hx; subst hx; show o2 ∉ [g]; simp; omega))
  rw [show (([99, 101, 102] : List UInt8).take (clampN (-1) ([99, 101, 102] : List UInt8).length)).length = 0 from rfl]
  clear hr10 hb10 HR8 HF8 HG8
  go_wp2_with fail
  refine (pop_held HR10.out (by omega) 9).mono ?_
  rintro e w11 ⟨o6, rfl, hf11, hr11, hb11⟩
  have HR11 := Lib.hid (show Held w.heap.size w w11 g p 3 [] from hr11)
  have k1 := conv8 (c := 3) (n := 3) (HF10.out.but hb11 (fun _ x hx => by injection hx with hx; subst hx; show o4 ∉ [g]; simp; omega))
  have k2 := conv8 (c := 2) (n := 2) (HG10.out.but hb11 (fun _ x hx => by injection hx with hx; subst hx; show o2 ∉ [g]; simp; omega))
  have k3 := conv8 (c := 3) (n := 3) (show Fresh w10 w11 o6 [99, 101, 102] from hf11).src
  rw [show (([99, 101, 102] : List UInt8).take (clampN 9 ([99, 101, 102] : List UInt8).length)).length = 3 from rfl]
  clear hf11 hr11 hb11 HR10 HF10 HG10
  go_wp2_with fail
  refine (len_any g p 3 _ w11 HR11.out.rg).mono ?_
  rintro e w12 ⟨rfl, rfl⟩
  rw [show ((([] : List UInt8).length : Nat) : Int) = 0 from rfl]
  go_wp2_with fail
  refine (free_any g p 3 _ w11 HR11.out.rg (by omega)).mono ?_
  rintro e w12 ⟨rfl, q2, rfl⟩
  rw [show ((3 - ([] : List UInt8).length : Nat) : Int) = 3 from rfl]
  have HR12 := Lib.hid (HR11.out.drewN q2)
  clear k1 k2 k3 HR11
  generalize w11.drewN q2 = w12 at *
  go_wp2_with fail
  refine (full_any g p 3 _ w12 HR12.out.rg (by omega)).mono ?_
  rintro e w13 ⟨rfl, q3, rfl⟩
  rw [show fullB 3 ([] : List UInt8).length = false from rfl]
  go_wp2_with fail
  go_ret
  exact ⟨rfl, (HR12.out.drewN q3).bel⟩
end Go.Proofs.Ytpdihniimnoeoaa.Rg
