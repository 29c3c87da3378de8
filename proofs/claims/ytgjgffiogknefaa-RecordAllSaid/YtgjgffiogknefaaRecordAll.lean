/-
  'What all bytes are, and how they are framed' (hagioscopelaw07.RecordAll) holds: whatever the bytes and the size, the call returns true and leaves what was there as it was. No condition.
-/
import Derived.Test.YtgjgffiogknefaaRcSmall
import Derived.Test.YtgjgffiogknefaaRcRefAll
import Derived.Test.YtgjgffiogknefaaLift
import Derived.LoopTactic
namespace Go.Proofs.Ytgjgffiogknefaa.recordAll
open Go.ChangeShapes Go.WideShapes Go.ChangeAt Go.RowKit
open Go.ChangeMaps (open_string shut_string)
open Go.Proofs.Ytgjgffiogknefaa.Wd Go.Proofs.Ytgjgffiogknefaa.Rc Go.Proofs.Ytgjgffiogknefaa.Lift

theorem walk_out (w : World) (A : Option Addr) (n cap : Nat) (size : Int) (hc : n ≤ 9223372036854775807) (h : 5000 < n) :
    Calls Try.prog 4 #[.slice A n cap, .int .i64 size] w fun e w' => e = .returned (.bool true) ∧ Below w.heap.size w w' := by
  have h1 : (5000 : Int) < (n : Int) := by omega
  clear h
  go_enter Try.func4, Try.ntmps4
  go_wp2_with fail
  refine (small_any w).mono ?_
  rintro e w1 ⟨rfl, hb1⟩
  have HB1 := Lib.hid hb1
  clear hb1
  go_wp2_with fail
  go_ret
  exact ⟨rfl, HB1.out⟩

set_option maxRecDepth 100000 in
set_option maxHeartbeats 1000000 in
theorem walk_few (w : World) (A : Option Addr) (n cap : Nat) (xs : List UInt8) (size : Int) (hc : n ≤ cap) (hs : Src w A n xs) (hn : n ≤ 5000) :
    Calls Try.prog 4 #[.slice A n cap, .int .i64 size] w fun e w' => e = .returned (.bool true) ∧ Below w.heap.size w w' := by
  have HS := Lib.hid hs
  have hn1 : (n : Int) ≤ 5000 := by omega
  clear hs
  go_enter Try.func4, Try.ntmps4
  go_wp2_with fail
  refine (small_any w).mono ?_
  rintro e w1 ⟨rfl, hb1⟩
  have HB1 := Lib.hid hb1
  have HS1 := Lib.hid (HS.out.below hb1)
  clear hb1 HS
  go_wp2_with fail
  refine (all_any w1 A n cap xs HS1.out (by omega)).mono ?_
  rintro e w2 ⟨v2, rfl, hO2, hb2⟩
  have HB2 := Lib.hid (HB1.out.trans (hb2.mono HB1.out.size))
  have HS2 := Lib.hid (HS1.out.below hb2)
  obtain ⟨A2, c2, rfl, -, hs2, -⟩ := hO2.cut_
  have HX2 := Lib.hid hs2
  clear hO2 hs2 hb2 HB1 HS1
  go_wp2_with fail
  refine (rall_any w2 A n cap xs HS2.out (by omega)).mono ?_
  rintro e w3 ⟨v3, rfl, hO3, hb3⟩
  have HB3 := Lib.hid (HB2.out.trans (hb3.mono HB2.out.size))
  have HS3 := Lib.hid (HS2.out.below hb3)
  have HX3 := Lib.hid (HX2.out.below hb3)
  obtain ⟨A3, c3, rfl, -, hs3, -⟩ := hO3.cut_
  have HY3 := Lib.hid hs3
  clear hO3 hs3 hb3 HB2 HS2 HX2
  generalize atI (atD (D.st 0) xs) = ai at *
  generalize (runD (D.st 0) xs).e = ei at *
  generalize outD (D.st 0) xs = p at *
  generalize p.length = L at *
  obtain ⟨sp, hsp⟩ : ∃ s : ByteArray, (⟨p.toArray⟩ : ByteArray) = s := ⟨_, rfl⟩
  obtain ⟨sf, hsf⟩ : ∃ s : ByteArray, (⟨(frameS (sizeK size) xs).toArray⟩ : ByteArray) = s := ⟨_, rfl⟩
  have HSf := Lib.hid hsf
  have HSp := Lib.hid hsp
  have kx := con8 (w := w3.drew) (c := c2) (show Src w3.drew A2 L p from HX3.out)
  have ky := con8 (w := w3.drew) (c := c3) (show Src w3.drew A3 L p from HY3.out)
  rw [hsp] at kx ky
  have HSd := Lib.hid (show Src w3.drew A n xs from HS3.out)
  clear hsp hsf
  go_wp2_with fail
  go_region_held (fun w' => (convert 22 9 (.slice A2 L c2)).run Try.prog w' = .ok (.string sp) w' ∧ (convert 22 9 (.slice A3 L c3)).run Try.prog w' = .ok (.string sp) w')
    (first | exact ⟨kx, ky⟩ | exact ⟨kx4, ky4⟩ | exact ⟨kx5, ky5⟩)
    (first
      | (go_at_call 17; refine (frame_any _ A n cap xs size (by exact HSd.out) hc (by omega)).mono ?_; rintro e w4 ⟨v4, rfl, hO4, hb4⟩; obtain ⟨A4, c4, rfl, -, hs4, -⟩ := hO4.cut_; have hb4' : Below w3.heap.size w3 w4 := (Below.refl _ _).drew.trans hb4; have k4 := con8 (c := c4) hs4; rw [HSf.out] at k4; have kx4 := con8 (c := c2) (HX3.out.below hb4'); have ky4 := con8 (c := c3) (HY3.out.below hb4'); rw [HSp.out] at kx4 ky4; have HS4 := Lib.hid (HS3.out.below hb4'); have HX4 := Lib.hid (HX3.out.below hb4'); have HY4 := Lib.hid (HY3.out.below hb4'); have HV4 := Lib.hid hs4; have HB4 := Lib.hid (HB3.out.trans (hb4'.mono HB3.out.size)); clear hs4 hO4 hb4 hb4')
      | (go_at_call 18; refine (rframe_any _ A n cap xs size (by exact HS4.out) hc (by omega)).mono ?_; rintro e w5 ⟨v5, rfl, hO5, hb5⟩; obtain ⟨A5, c5, rfl, -, hs5, -⟩ := hO5.cut_; have k55 := con8 (c := c5) hs5; have k54 := con8 (c := c4) (HV4.out.below hb5); rw [HSf.out] at k55 k54; have kx5 := con8 (c := c2) (HX4.out.below hb5); have ky5 := con8 (c := c3) (HY4.out.below hb5); rw [HSp.out] at kx5 ky5; have HB5 := Lib.hid (HB4.out.trans (hb5.mono HB4.out.size)); clear hs5 hO5 hb5))
  all_goals
    go_wp2_with fail
    go_ret
    exact ⟨by simp, HB5.out⟩

theorem walk (W : World) (A : Option Addr) (n cap : Nat) (xs : List UInt8) (h1 : n ≤ cap) (h2 : cap ≤ maxLen) (hs : Src W A n xs) (size : Int) (_ : -9223372036854775808 ≤ size ∧ size ≤ 9223372036854775807) :
    Calls Try.prog 4 #[.slice A n cap, .int .i64 size] W fun e w' => e = .returned (.bool true) ∧ Below W.heap.size W w' := by
  unfold maxLen at h2
  by_cases h : 5000 < n
  · exact walk_out W A n cap size (by omega) h
  · exact walk_few W A n cap xs size h1 hs (by omega)

set_option maxRecDepth 100000 in
set_option linter.unusedVariables false in
theorem lifted (os : Os) (started : os.Started) (H : Type) (enc : TypeId × Value → H) :
    ReturnsInHanded {} Try.checked os 4 .any (Rows.recordAllSpec.pre6 enc Try.prog Try.f4 Rows.recordAllRow.domain false) (Rows.recordAllSpec.post enc Try.prog Try.f4 false true false false) := by
  refine returnsInHanded_of_change (C := Try.checked) own started (by kernel_rfl) Try.func4
    (ChangeSpec.witness6 (enc := enc) (C := Try.checked) false ⟨#[], #[.slice none 0 0, .int .i64 0], []⟩ 8 (by kernel_rfl) (by kernel_rfl) (by kernel_rfl) (by kernel_rfl)) ?_
  intro W base args ds gs before hval0 hW hcnd _
  have hval : ∀ (j : Nat) t v, Try.f4.params[j]? = some t → args[j]? = some v → Value.okWide Try.prog W .any base t v := hval0
  have hW' := hW
  obtain ⟨p, q, hA0, hV, rfl, hfz, hnd⟩ := hW
  have hA : DataW.TrodAll enc Try.prog W 0 (fun _ => true) true Try.f4.params.toList args.toList ds p := hA0
  rw [Try.params4] at hA hval
  obtain ⟨v0, vs0, d0, ds0, p0, q0, hargs, rfl, rfl, h0, r0⟩ := trodAll_cons hA
  obtain ⟨v1, vs1, d1, ds1, p1, q1, rfl, rfl, rfl, h1, r1⟩ := trodAll_cons r0
  obtain ⟨rfl, rfl, rfl⟩ := trodAll_nil r1
  obtain rfl : args = #[v0, v1] := by cases args; simp_all
  obtain ⟨rfl, rfl⟩ := trodVars_none hV
  have k0 := h0
  have lt0 : ∀ x ∈ p0, x.block < W.heap.size := by obtain ⟨m, hm⟩ := k0; exact DataW.trod_lt m _ _ _ hm
  obtain ⟨A0, n0, cap0, xs0, rfl, le0, mx0, src0⟩ := open_bytes (hval 0 22 v0 rfl rfl) h0
  have k1 := h1
  have lt1 : ∀ x ∈ p1, x.block < W.heap.size := by obtain ⟨m, hm⟩ := k1; exact DataW.trod_lt m _ _ _ hm
  obtain ⟨a1, rfl, rfl, rfl, w1⟩ := open_int Try.underlying3 (hval 1 3 v1 rfl rfl) h1
  have b1 := int_of w1
  clear hA0 hval0
  refine (walk W A0 n0 cap0 xs0 le0 mx0 src0 a1 b1).mono fun e W' ⟨he, bel⟩ => ?_
  subst he
  exact ⟨_, rfl, _, _, _, [], _, [], hW', trodAll_mk1 (shut_bool Try.underlying4 _), (trodAll_cons_mk (Below.trod laidOut (by kernel_rfl) (of_decide_eq_true (by kernel_rfl)) k0 bel lt0) (trodAll_cons_mk (Below.trod laidOut (by kernel_rfl) (of_decide_eq_true (by kernel_rfl)) k1 bel lt1) trodAll_mk0)), rfl, bel.frame _, fun h => by cases h⟩

theorem over : Rows.recordAllRow.holds Try.pinned (OpenSpec.ofChange Rows.recordAllSpec) :=
  OpenClaim.holds_of_wide 4 Try.f4 rfl rfl rfl rfl rfl rfl rfl ⟨rfl, rfl, rfl, rfl, rfl⟩ rfl rfl rfl rfl rfl (by kernel_rfl) Try.func4 (by kernel_rfl)
    (of_decide_eq_true (by kernel_rfl)) (by unfold Func.isWrapper; first | (rw [if_pos (by decide +kernel)]; kernel_rfl) | (rw [if_neg (by decide +kernel)]; exact ⟨rfl, rfl⟩))
    (fun os started H enc _ => lifted os started H enc)

theorem proved : Rows.RecordAllSaid := over
#print axioms proved
end Go.Proofs.Ytgjgffiogknefaa.recordAll
