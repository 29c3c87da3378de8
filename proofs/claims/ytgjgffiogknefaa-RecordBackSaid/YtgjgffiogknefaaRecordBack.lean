/-
  'What is framed is taken apart as it was' (hagioscopelaw07.RecordBack) holds: whatever the bytes, the size and the cut, the call returns true and leaves what was there as it was. No condition.
-/
import Derived.Test.YtgjgffiogknefaaRcSmall
import Derived.Test.YtgjgffiogknefaaRcMore
import Derived.Test.YtgjgffiogknefaaLift
import Derived.Test.YtgjgffiogknefaaLst
import Derived.LoopTactic
namespace Go.Proofs.Ytgjgffiogknefaa.recordBack
open Go.ChangeShapes Go.WideShapes Go.ChangeAt Go.RowKit
open Go.ChangeMaps (open_string shut_string)
open Go.Proofs.Ytgjgffiogknefaa.Wd Go.Proofs.Ytgjgffiogknefaa.Rc Go.Proofs.Ytgjgffiogknefaa.Lift

theorem walk_out (w : World) (A : Option Addr) (n cap : Nat) (size cut : Int) (hc : n ≤ 9223372036854775807) (h : 3000 < n) :
    Calls Try.prog 5 #[.slice A n cap, .int .i64 size, .int .i64 cut] w fun e w' => e = .returned (.bool true) ∧ Below w.heap.size w w' := by
  have h1 : (3000 : Int) < (n : Int) := by omega
  clear h
  go_enter Try.func5, Try.ntmps5
  go_wp2_with fail
  refine (small_any w).mono ?_
  rintro e w1 ⟨rfl, hb1⟩
  have HB1 := Lib.hid hb1
  clear hb1
  go_wp2_with fail
  go_ret
  exact ⟨rfl, HB1.out⟩

set_option maxRecDepth 100000 in
set_option maxHeartbeats 1000000 in
theorem walk_few (w : World) (A : Option Addr) (n cap : Nat) (xs : List UInt8) (size cut : Int) (hc : n ≤ cap) (hs : Src w A n xs) (hn : n ≤ 3000) :
    Calls Try.prog 5 #[.slice A n cap, .int .i64 size, .int .i64 cut] w fun e w' => e = .returned (.bool true) ∧ Below w.heap.size w w' := by
  have HS := Lib.hid hs
  have hn1 : (n : Int) ≤ 3000 := by omega
  have hL := hs.1
  have HL := Lib.hid hL
  obtain ⟨-, hq2⟩ := sizeK_eq size
  obtain ⟨b1, b2, b3⟩ := back (sizeK size) hq2 xs
  have HK1 := Lib.hid b1
  have HK2 := Lib.hid b2
  have HK3 := Lib.hid b3
  have hfl := frameS_le (sizeK size) hq2 xs
  rw [hL] at hfl
  clear hs hL hq2 b1 b2 b3
  go_enter Try.func5, Try.ntmps5
  go_wp2_with fail
  refine (small_any w).mono ?_
  rintro e w1 ⟨rfl, hb1⟩
  have HB1 := Lib.hid hb1
  have HS1 := Lib.hid (HS.out.below hb1)
  clear hb1 HS
  go_wp2_with fail
  refine (frame_any w1 A n cap xs size HS1.out hc (by omega)).mono ?_
  rintro e w2 ⟨v, rfl, hO, hb⟩
  generalize frameS (sizeK size) xs = f at *
  obtain ⟨A2, c2, rfl, hc2, hs2, -⟩ := hO.cut_
  have HB2 := Lib.hid (HB1.out.trans (hb.mono HB1.out.size))
  have HS2 := Lib.hid (HS1.out.below hb)
  obtain ⟨L, hL⟩ : ∃ L, L = f.length := ⟨_, rfl⟩
  rw [← hL] at hs2 hc2 hfl
  rw [← hL]
  have HF2 := Lib.hid hs2
  clear hO hs2 hb HB1 HS1 hL
  go_wp2_with fail
  refine (all_any w2 A2 L c2 f HF2.out (by omega)).mono ?_
  rintro e w3 ⟨v3, rfl, hO3, hb3⟩
  rw [HK2.out, HK3.out, show atI (none : Option Nat) = -1 from rfl]
  rw [HK1.out] at hO3
  have HB3 := Lib.hid (HB2.out.trans (hb3.mono HB2.out.size))
  have HS3 := Lib.hid (HS2.out.below hb3)
  have HF3 := Lib.hid (HF2.out.below hb3)
  obtain ⟨A3, c3, rfl, -, hs3, -⟩ := hO3.cut_
  rw [HL.out] at hs3
  rw [HL.out]
  have kx := con8 (c := cap) HS3.out
  have ky := con8 (c := c3) hs3
  generalize hsx : (⟨xs.toArray⟩ : ByteArray) = sx at *
  have HX := Lib.hid hsx
  clear hO3 hs3 hb3 HB2 HS2 HF2 hsx
  by_cases hcut : 0 ≤ cut ∧ cut ≤ (L : Int)
  · obtain ⟨k, rfl⟩ := Int.eq_ofNat_of_zero_le hcut.1
    have hk0 : (0 : Int) ≤ (k : Int) := hcut.1
    have hk1 : (k : Int) ≤ (L : Int) := hcut.2
    have hkL : k ≤ L := by omega
    have hsl := fun w' => slice_to und8 siz8 A2 L c2 w' k (by omega)
    have HI3 := Lib.hid (HF3.out.take hkL)
    obtain ⟨p1, p2, p3⟩ := Go.Proofs.Ytgjgffiogknefaa.Rc.ahead HK3.out k
    rw [HK1.out] at p3
    have HP1 := Lib.hid p1
    have HP2 := Lib.hid p2
    have HP3 := Lib.hid p3
    clear p1 p2 p3 hcut
    go_wp2_with fail
    refine (all_any w3 A2 k c2 _ HI3.out (by omega)).mono ?_
    rintro e w4 ⟨v4, rfl, hO4, hb4⟩
    rw [HP2.out, HP1.out, show atI (none : Option Nat) = -1 from rfl]
    have HB4 := Lib.hid (HB3.out.trans (hb4.mono HB3.out.size))
    have HS4 := Lib.hid (HS3.out.below hb4)
    have HP4 := HP3.out
    generalize outD (D.st 0) (f.take k) = p at *
    generalize outD (runD (D.st 0) (f.take k)) (f.drop k) = r at *
    obtain ⟨A4, c4, rfl, -, hs4, -⟩ := hO4.cut_
    obtain ⟨Lp, hLp⟩ : ∃ Lp, Lp = p.length := ⟨_, rfl⟩
    have hpn : Lp ≤ n := by rw [← HL.out, HP4, List.length_append, hLp]; omega
    have hpt : xs.take Lp = p := by rw [HP4, hLp, List.take_left]
    rw [← hLp] at hs4
    rw [← hLp]
    have hpni : (Lp : Int) ≤ (n : Int) := by omega
    have hst := HS4.out.take hpn
    rw [hpt] at hst
    have hs2l := fun w' => slice_to und8 siz8 A n cap w' Lp (by omega)
    have kp := fun j => con8 (c := c4) (show Src (w4.drewN j) A4 Lp p from hs4)
    have kt := fun j => con8 (c := cap) (show Src (w4.drewN j) A Lp p from hst)
    generalize (⟨p.toArray⟩ : ByteArray) = sp at *
    clear hO4 hb4 hs4 HB3 HS3 HI3 kx ky HS4 HP4 hLp hpt hst HP3
    have kp0 := kp 0
    have kt0 := kt 0
    go_wp2_with fail
    go_quiet (fail)
    go_wp2_with fail
    go_ret
    exact ⟨by simp, HB4.out.trans (((But.refl [] w4).drewN _).below (by simp) HB4.out.size)⟩
  · have h' : cut < 0 ∨ (0 ≤ cut ∧ (L : Int) < cut) := by omega
    clear hcut
    rcases h' with h1 | ⟨h1, h2⟩
    all_goals
      go_wp2_with fail
      go_ret
      exact ⟨rfl, HB3.out⟩

theorem walk (W : World) (A : Option Addr) (n cap : Nat) (xs : List UInt8) (h1 : n ≤ cap) (h2 : cap ≤ maxLen) (hs : Src W A n xs) (size : Int) (_ : -9223372036854775808 ≤ size ∧ size ≤ 9223372036854775807)
    (cut : Int) (_ : -9223372036854775808 ≤ cut ∧ cut ≤ 9223372036854775807) :
    Calls Try.prog 5 #[.slice A n cap, .int .i64 size, .int .i64 cut] W fun e w' => e = .returned (.bool true) ∧ Below W.heap.size W w' := by
  unfold maxLen at h2
  by_cases h : 3000 < n
  · exact walk_out W A n cap size cut (by omega) h
  · exact walk_few W A n cap xs size cut h1 hs (by omega)

set_option maxRecDepth 100000 in
set_option linter.unusedVariables false in
theorem lifted (os : Os) (started : os.Started) (H : Type) (enc : TypeId × Value → H) :
    ReturnsInHanded {} Try.checked os 5 .any (Rows.recordBackSpec.pre6 enc Try.prog Try.f5 Rows.recordBackRow.domain false) (Rows.recordBackSpec.post enc Try.prog Try.f5 false true false false) := by
  refine returnsInHanded_of_change (C := Try.checked) own started (by kernel_rfl) Try.func5
    (ChangeSpec.witness6 (enc := enc) (C := Try.checked) false ⟨#[], #[.slice none 0 0, .int .i64 0, .int .i64 0], []⟩ 8 (by kernel_rfl) (by kernel_rfl) (by kernel_rfl) (by kernel_rfl)) ?_
  intro W base args ds gs before hval0 hW hcnd _
  have hval : ∀ (j : Nat) t v, Try.f5.params[j]? = some t → args[j]? = some v → Value.okWide Try.prog W .any base t v := hval0
  have hW' := hW
  obtain ⟨p, q, hA0, hV, rfl, hfz, hnd⟩ := hW
  have hA : DataW.TrodAll enc Try.prog W 0 (fun _ => true) true Try.f5.params.toList args.toList ds p := hA0
  rw [Try.params5] at hA hval
  obtain ⟨v0, vs0, d0, ds0, p0, q0, hargs, rfl, rfl, h0, r0⟩ := trodAll_cons hA
  obtain ⟨v1, vs1, d1, ds1, p1, q1, rfl, rfl, rfl, h1, r1⟩ := trodAll_cons r0
  obtain ⟨v2, vs2, d2, ds2, p2, q2, rfl, rfl, rfl, h2, r2⟩ := trodAll_cons r1
  obtain ⟨rfl, rfl, rfl⟩ := trodAll_nil r2
  obtain rfl : args = #[v0, v1, v2] := by cases args; simp_all
  obtain ⟨rfl, rfl⟩ := trodVars_none hV
  have k0 := h0
  have lt0 : ∀ x ∈ p0, x.block < W.heap.size := by obtain ⟨m, hm⟩ := k0; exact DataW.trod_lt m _ _ _ hm
  obtain ⟨A0, n0, cap0, xs0, rfl, le0, mx0, src0⟩ := open_bytes (hval 0 22 v0 rfl rfl) h0
  have k1 := h1
  have lt1 : ∀ x ∈ p1, x.block < W.heap.size := by obtain ⟨m, hm⟩ := k1; exact DataW.trod_lt m _ _ _ hm
  obtain ⟨a1, rfl, rfl, rfl, w1⟩ := open_int Try.underlying3 (hval 1 3 v1 rfl rfl) h1
  have b1 := int_of w1
  have k2 := h2
  have lt2 : ∀ x ∈ p2, x.block < W.heap.size := by obtain ⟨m, hm⟩ := k2; exact DataW.trod_lt m _ _ _ hm
  obtain ⟨a2, rfl, rfl, rfl, w2⟩ := open_int Try.underlying3 (hval 2 3 v2 rfl rfl) h2
  have b2 := int_of w2
  clear hA0 hval0
  refine (walk W A0 n0 cap0 xs0 le0 mx0 src0 a1 b1 a2 b2).mono fun e W' ⟨he, bel⟩ => ?_
  subst he
  exact ⟨_, rfl, _, _, _, [], _, [], hW', trodAll_mk1 (shut_bool Try.underlying4 _), (trodAll_cons_mk (Below.trod laidOut (by kernel_rfl) (of_decide_eq_true (by kernel_rfl)) k0 bel lt0) (trodAll_cons_mk (Below.trod laidOut (by kernel_rfl) (of_decide_eq_true (by kernel_rfl)) k1 bel lt1) (trodAll_cons_mk (Below.trod laidOut (by kernel_rfl) (of_decide_eq_true (by kernel_rfl)) k2 bel lt2) trodAll_mk0))), rfl, bel.frame _, fun h => by cases h⟩

theorem over : Rows.recordBackRow.holds Try.pinned (OpenSpec.ofChange Rows.recordBackSpec) :=
  OpenClaim.holds_of_wide 5 Try.f5 rfl rfl rfl rfl rfl rfl rfl ⟨rfl, rfl, rfl, rfl, rfl⟩ rfl rfl rfl rfl rfl (by kernel_rfl) Try.func5 (by kernel_rfl)
    (of_decide_eq_true (by kernel_rfl)) (by unfold Func.isWrapper; first | (rw [if_pos (by decide +kernel)]; kernel_rfl) | (rw [if_neg (by decide +kernel)]; exact ⟨rfl, rfl⟩))
    (fun os started H enc _ => lifted os started H enc)

theorem proved : Rows.RecordBackSaid := over
#print axioms proved
end Go.Proofs.Ytgjgffiogknefaa.recordBack
