/-
  The law BeSplit holds: whatever the four bytes, the call returns true and leaves what was there as it was. No condition.
-/
import Derived.Test.YteikjoafabldpaaBeSmall
import Derived.Test.YteikjoafabldpaaLift
namespace Go.Proofs.Yteikjoafabldpaa.beSplit
open Go.ChangeShapes Go.WideShapes Go.ChangeAt Go.RowKit
open Go.ChangeMaps (open_string shut_string)
open Go.Proofs.Yteikjoafabldpaa.Wd Go.Proofs.Yteikjoafabldpaa.Be Go.Proofs.Yteikjoafabldpaa.Lift

theorem src4 (w : World) (a b c d : UInt8) : Src (w.alloc (.cells #[.int .u8 (a.toNat : Int), .int .u8 (b.toNat : Int), .int .u8 (c.toNat : Int), .int .u8 (d.toNat : Int)] 5)) (some ⟨w.heap.size, 0, none⟩) 4 [a, b, c, d] :=
  Src.marked w _ _ _ [a, b, c, d] rfl

theorem eq1 (a b c d : UInt8) : ((natOf [a, b, c, d] : Int) == (natOf [a, b] : Int) * 65536 + (natOf [c, d] : Int)) = true := by
  simp only [natOf, List.foldl_cons, List.foldl_nil, beq_iff_eq]; omega
theorem eq2 (a b c d : UInt8) : ((natOf [a, b, c, d] : Int) == (natOf [a] : Int) * 16777216 + (natOf [b, c, d] : Int)) = true := by
  simp only [natOf, List.foldl_cons, List.foldl_nil, beq_iff_eq]; omega
theorem eq3 (a : UInt8) : ((natOf [a] : Int) == (a.toNat : Int)) = true := by
  simp only [natOf, List.foldl_cons, List.foldl_nil, beq_iff_eq]; omega
theorem lt1 (a : UInt8) : natOf [a] < 256 := Nat.lt_of_lt_of_eq (natOf_lt [a]) (by simp)
theorem lt2 (a b : UInt8) : natOf [a, b] < 65536 := Nat.lt_of_lt_of_eq (natOf_lt [a, b]) (by simp)
theorem lt3 (a b c : UInt8) : natOf [a, b, c] < 16777216 := Nat.lt_of_lt_of_eq (natOf_lt [a, b, c]) (by simp)

set_option maxHeartbeats 1000000 in
theorem walk (a b c d : UInt8) (w : World) :
    Calls Try.prog 8 #[.int .u8 (a.toNat : Int), .int .u8 (b.toNat : Int), .int .u8 (c.toNat : Int), .int .u8 (d.toNat : Int)] w fun e w' => e = .returned (.bool true) ∧ Below w.heap.size w w' := by
  go_enter Try.func8, Try.ntmps8
  go_wp2_with fail
  refine (small_any w).mono ?_
  rintro e w1 ⟨rfl, hb1⟩
  go_wp2_with fail
  refine (read_any _ 4 4 [a, b, c, d] _ (src4 w1 a b c d) (by omega)).mono ?_
  rintro e w2 ⟨x, rfl, hx, hrx, hb2⟩
  simp only [World.size_alloc] at hx hb2
  have hbw2 : Below w.heap.size w w2 := (hb1.alloc hb1.size _).trans (hb2.mono (by have := hb1.size; omega))
  have HRX := Lib.hid hrx
  have hxw : w.heap.size ≤ x := by have := hb1.size; omega
  clear hrx hb2 hb1 hx
  go_wp2_with fail
  refine (read_any _ 4 4 [a, b, c, d] _ (src4 w2 a b c d) (by omega)).mono ?_
  rintro e w3 ⟨y, rfl, hy, hry, hb3⟩
  simp only [World.size_alloc] at hy hb3
  have HRX3 := Lib.hid ((HRX.out.below ((Below.refl _ _).alloc (Nat.le_refl _) _) (Nat.le_refl _)).below hb3 (by simp))
  have hxy : x ≠ y := by have := HRX.out.lt; omega
  have hbw3 : Below w.heap.size w w3 := (hbw2.alloc hbw2.size _).trans (hb3.mono (by have := hbw2.size; omega))
  have HRY := Lib.hid hry
  have hyw : w.heap.size ≤ y := by have := hbw2.size; omega
  clear hry hb3 hbw2 hy HRX
  go_wp2_with fail
  refine (read_any _ 4 4 [a, b, c, d] _ (src4 w3 a b c d) (by omega)).mono ?_
  rintro e w4 ⟨z, rfl, hz, hrz, hb4⟩
  simp only [World.size_alloc] at hz hb4
  have HRX4 := Lib.hid ((HRX3.out.below ((Below.refl _ _).alloc (Nat.le_refl _) _) (Nat.le_refl _)).below hb4 (by simp))
  have HRY4 := Lib.hid ((HRY.out.below ((Below.refl _ _).alloc (Nat.le_refl _) _) (Nat.le_refl _)).below hb4 (by simp))
  have hxz : x ≠ z := by have := HRX3.out.lt; omega
  have hyz : y ≠ z := by have := HRY.out.lt; omega
  have hbw4 : Below w.heap.size w w4 := (hbw3.alloc hbw3.size _).trans (hb4.mono (by have := hbw3.size; omega))
  have HRZ4 := Lib.hid hrz
  have hzw : w.heap.size ≤ z := by have := hbw3.size; omega
  clear hrz hb4 hbw3 hz HRX3 HRY
  go_wp2_with fail
  refine (num_any x 4 _ w4 HRX4.out (fun rest h => by injection h with h; subst h; simp)).mono ?_
  rintro e w5 ⟨rfl, hr5, hg5⟩
  have HRX5 := Lib.hid (show Rd w5 x (some []) from hr5)
  obtain ⟨cx, hcx⟩ := HRX4.out.blk
  have HRY5 := Lib.hid (HRY4.out.grown hcx hxy.symm hg5)
  have HRZ5 := Lib.hid (HRZ4.out.grown hcx hxz.symm hg5)
  have hbw5 : Below w.heap.size w w5 := below_of_only hbw4 hg5 hbw4.size hxw
  rw [show (numS (some [a, b, c, d]) 4).1 = natOf [a, b, c, d] from rfl]
  clear hr5 hg5 hcx HRX4 HRY4 HRZ4 hbw4
  go_wp2_with fail
  refine (num_any y 2 _ w5 HRY5.out (fun rest h => by injection h with h; subst h; simp)).mono ?_
  rintro e w6 ⟨rfl, hr6, hg6⟩
  have HRY6 := Lib.hid (show Rd w6 y (some [c, d]) from hr6)
  obtain ⟨cx, hcx⟩ := HRY5.out.blk
  have HRX6 := Lib.hid (HRX5.out.grown hcx hxy hg6)
  have HRZ6 := Lib.hid (HRZ5.out.grown hcx hyz.symm hg6)
  have hbw6 : Below w.heap.size w w6 := below_of_only hbw5 hg6 hbw5.size hyw
  rw [show (numS (some [a, b, c, d]) 2).1 = natOf [a, b] from rfl]
  clear hr6 hg6 hcx HRX5 HRY5 HRZ5 hbw5
  go_wp2_with fail
  refine (num_any y 2 _ w6 HRY6.out (fun rest h => by injection h with h; subst h; simp)).mono ?_
  rintro e w7 ⟨rfl, hr7, hg7⟩
  have HRY7 := Lib.hid (show Rd w7 y (some []) from hr7)
  obtain ⟨cx, hcx⟩ := HRY6.out.blk
  have HRX7 := Lib.hid (HRX6.out.grown hcx hxy hg7)
  have HRZ7 := Lib.hid (HRZ6.out.grown hcx hyz.symm hg7)
  have hbw7 : Below w.heap.size w w7 := below_of_only hbw6 hg7 hbw6.size hyw
  rw [show (numS (some [c, d]) 2).1 = natOf [c, d] from rfl]
  clear hr7 hg7 hcx HRX6 HRY6 HRZ6 hbw6
  go_wp2_with fail
  refine (num_any z 1 _ w7 HRZ7.out (fun rest h => by injection h with h; subst h; simp)).mono ?_
  rintro e w8 ⟨rfl, hr8, hg8⟩
  have HRZ8 := Lib.hid (show Rd w8 z (some [b, c, d]) from hr8)
  obtain ⟨cx, hcx⟩ := HRZ7.out.blk
  have HRX8 := Lib.hid (HRX7.out.grown hcx hxz hg8)
  have HRY8 := Lib.hid (HRY7.out.grown hcx hyz hg8)
  have hbw8 : Below w.heap.size w w8 := below_of_only hbw7 hg8 hbw7.size hzw
  rw [show (numS (some [a, b, c, d]) 1).1 = natOf [a] from rfl]
  clear hr8 hg8 hcx HRX7 HRY7 HRZ7 hbw7
  go_wp2_with fail
  refine (num_any z 3 _ w8 HRZ8.out (fun rest h => by injection h with h; subst h; simp)).mono ?_
  rintro e w9 ⟨rfl, hr9, hg9⟩
  have HRZ9 := Lib.hid (show Rd w9 z (some []) from hr9)
  obtain ⟨cx, hcx⟩ := HRZ8.out.blk
  have HRX9 := Lib.hid (HRX8.out.grown hcx hxz hg9)
  have HRY9 := Lib.hid (HRY8.out.grown hcx hyz hg9)
  have hbw9 : Below w.heap.size w w9 := below_of_only hbw8 hg9 hbw8.size hzw
  rw [show (numS (some [b, c, d]) 3).1 = natOf [b, c, d] from rfl]
  clear hr9 hg9 hcx HRX8 HRY8 HRZ8 hbw8
  have e1 := eq1 a b c d
  have e2 := eq2 a b c d
  have e3 := eq3 a
  have l2 := lt2 a b
  have l3 := lt2 c d
  have l4 := lt1 a
  have l5 := lt3 b c d
  have ha : a.toNat < 256 := a.toNat_lt
  generalize natOf [a, b, c, d] = N at *
  generalize natOf [a, b] = N1 at *
  generalize natOf [c, d] = N2 at *
  generalize natOf [a] = N3 at *
  generalize natOf [b, c, d] = N4 at *
  go_wp2_with fail
  refine (done_any x _ w9 HRX9.out).mono ?_
  rintro e w10 ⟨rfl, rfl⟩
  rw [show doneS (some []) = true from rfl]
  go_wp2_with fail
  refine (done_any y _ w9 HRY9.out).mono ?_
  rintro e w10 ⟨rfl, rfl⟩
  rw [show doneS (some []) = true from rfl]
  go_wp2_with fail
  refine (done_any z _ w9 HRZ9.out).mono ?_
  rintro e w10 ⟨rfl, rfl⟩
  rw [show doneS (some []) = true from rfl]
  go_wp2_with fail
  go_ret
  exact ⟨rfl, hbw9⟩

set_option maxRecDepth 100000 in
set_option linter.unusedVariables false in
theorem lifted (os : Os) (started : os.Started) (H : Type) (enc : TypeId × Value → H) :
    ReturnsInHanded {} Try.checked os 8 .any (Rows.beSplitSpec.pre6 enc Try.prog Try.f8 Rows.beSplitRow.domain false) (Rows.beSplitSpec.post enc Try.prog Try.f8 false true false false) := by
  refine returnsInHanded_of_change (C := Try.checked) own started (by kernel_rfl) Try.func8
    (ChangeSpec.witness6 (enc := enc) (C := Try.checked) false ⟨#[], #[.int .u8 0, .int .u8 0, .int .u8 0, .int .u8 0], []⟩ 8 (by kernel_rfl) (by kernel_rfl) (by kernel_rfl) (by kernel_rfl)) ?_
  intro W base args ds gs before hval0 hW hcnd _
  have hval : ∀ (j : Nat) t v, Try.f8.params[j]? = some t → args[j]? = some v → Value.okWide Try.prog W .any base t v := hval0
  have hW' := hW
  obtain ⟨p, q, hA0, hV, rfl, hfz, hnd⟩ := hW
  have hA : DataW.TrodAll enc Try.prog W 0 (fun _ => true) true Try.f8.params.toList args.toList ds p := hA0
  rw [Try.params8] at hA hval
  obtain ⟨v0, vs0, d0, ds0, p0, q0, hargs, rfl, rfl, h0, r0⟩ := trodAll_cons hA
  obtain ⟨v1, vs1, d1, ds1, p1, q1, rfl, rfl, rfl, h1, r1⟩ := trodAll_cons r0
  obtain ⟨v2, vs2, d2, ds2, p2, q2, rfl, rfl, rfl, h2, r2⟩ := trodAll_cons r1
  obtain ⟨v3, vs3, d3, ds3, p3, q3, rfl, rfl, rfl, h3, r3⟩ := trodAll_cons r2
  obtain ⟨rfl, rfl, rfl⟩ := trodAll_nil r3
  obtain rfl : args = #[v0, v1, v2, v3] := by cases args; simp_all
  obtain ⟨rfl, rfl⟩ := trodVars_none hV
  have k0 := h0
  have lt0 : ∀ x ∈ p0, x.block < W.heap.size := by obtain ⟨m, hm⟩ := k0; exact DataW.trod_lt m _ _ _ hm
  obtain ⟨a0, rfl, rfl, rfl, w0⟩ := open_int Try.underlying5 (hval 0 5 v0 rfl rfl) h0
  obtain ⟨c0, rfl⟩ := byte_of w0
  have k1 := h1
  have lt1 : ∀ x ∈ p1, x.block < W.heap.size := by obtain ⟨m, hm⟩ := k1; exact DataW.trod_lt m _ _ _ hm
  obtain ⟨a1, rfl, rfl, rfl, w1⟩ := open_int Try.underlying5 (hval 1 5 v1 rfl rfl) h1
  obtain ⟨c1, rfl⟩ := byte_of w1
  have k2 := h2
  have lt2 : ∀ x ∈ p2, x.block < W.heap.size := by obtain ⟨m, hm⟩ := k2; exact DataW.trod_lt m _ _ _ hm
  obtain ⟨a2, rfl, rfl, rfl, w2⟩ := open_int Try.underlying5 (hval 2 5 v2 rfl rfl) h2
  obtain ⟨c2, rfl⟩ := byte_of w2
  have k3 := h3
  have lt3 : ∀ x ∈ p3, x.block < W.heap.size := by obtain ⟨m, hm⟩ := k3; exact DataW.trod_lt m _ _ _ hm
  obtain ⟨a3, rfl, rfl, rfl, w3⟩ := open_int Try.underlying5 (hval 3 5 v3 rfl rfl) h3
  obtain ⟨c3, rfl⟩ := byte_of w3
  clear hA0 hval0
  refine (walk c0 c1 c2 c3 W).mono fun e W' ⟨he, bel⟩ => ?_
  subst he
  exact ⟨_, rfl, _, _, _, [], _, [], hW', trodAll_mk1 (shut_bool Try.underlying4 _), (trodAll_cons_mk (Below.trod laidOut (by kernel_rfl) (of_decide_eq_true (by kernel_rfl)) k0 bel lt0) (trodAll_cons_mk (Below.trod laidOut (by kernel_rfl) (of_decide_eq_true (by kernel_rfl)) k1 bel lt1) (trodAll_cons_mk (Below.trod laidOut (by kernel_rfl) (of_decide_eq_true (by kernel_rfl)) k2 bel lt2) (trodAll_cons_mk (Below.trod laidOut (by kernel_rfl) (of_decide_eq_true (by kernel_rfl)) k3 bel lt3) trodAll_mk0)))), rfl, bel.frame _, fun h => by cases h⟩

theorem over : Rows.beSplitRow.holds Try.pinned (OpenSpec.ofChange Rows.beSplitSpec) :=
  OpenClaim.holds_of_wide 8 Try.f8 rfl rfl rfl rfl rfl rfl rfl ⟨rfl, rfl, rfl, rfl, rfl⟩ rfl rfl rfl rfl rfl (by kernel_rfl) Try.func8 (by kernel_rfl)
    (of_decide_eq_true (by kernel_rfl)) (by unfold Func.isWrapper; first | (rw [if_pos (by decide +kernel)]; kernel_rfl) | (rw [if_neg (by decide +kernel)]; exact ⟨rfl, rfl⟩))
    (fun os started H enc _ => lifted os started H enc)

theorem proved : Rows.BeSplitSaid := over
#print axioms proved
end Go.Proofs.Yteikjoafabldpaa.beSplit
