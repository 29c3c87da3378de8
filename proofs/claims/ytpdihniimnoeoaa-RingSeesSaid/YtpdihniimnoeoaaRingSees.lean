/-
  'Who looks changes nothing, and sees what goes next' (hagioscopelaw05.RingSees) holds: whatever the room, the calls and the numbers, the call returns true and leaves what was there as it was. No condition.
-/
import Derived.Test.YtpdihniimnoeoaaRgFew
import Derived.Test.YtpdihniimnoeoaaRgSmall
import Derived.Deep.RegionHeld
namespace Go.Proofs.Ytpdihniimnoeoaa.ringSees
open Go.ChangeShapes Go.WideShapes Go.ChangeAt Go.RowKit
open Go.ChangeMaps (open_string shut_string)
open Go.Proofs.Ytpdihniimnoeoaa.Wd Go.Proofs.Ytpdihniimnoeoaa.Rg Go.Proofs.Ytpdihniimnoeoaa.Lift

theorem walk_out (w : World) (room n m : Int) (A : Option Addr) (ln cap : Nat) (l : List Cl) (hn : l.length = ln) (hc : ln ≤ 9223372036854775807) (hl : SrcL w A l) (hf : fewB l = false) :
    Calls Try.prog 6 #[.int .i64 room, .slice A ln cap, .int .i64 n, .int .i64 m] w fun e w' => e = .returned (.bool true) ∧ Below w.heap.size w w' := by
  have HF := Lib.hid hf
  clear hf
  go_enter Try.func6, Try.ntmps6
  go_wp2_with fail
  refine (small_any w).mono ?_
  rintro e w1 ⟨rfl, hb1⟩
  go_wp2_with fail
  refine (few_any w1 A ln cap l hn hc (hl.below hb1)).mono ?_
  rintro e w2 ⟨rfl, rfl⟩
  rw [HF.out]
  go_wp2_with fail
  refine (new_held room w w1 hb1 hb1.size).mono ?_
  rintro e w2 ⟨g, p, rfl, hr, -⟩
  have HL := Lib.hid hr.bel
  clear hr
  go_wp2_with fail
  go_ret
  exact ⟨rfl, HL.out⟩

set_option maxRecDepth 100000 in
set_option maxHeartbeats 1000000 in
theorem walk_few (w : World) (room n m : Int) (A : Option Addr) (ln cap : Nat) (l : List Cl) (hn : l.length = ln) (hc : ln ≤ 9223372036854775807) (hl : SrcL w A l) (hf : fewB l = true) :
    Calls Try.prog 6 #[.int .i64 room, .slice A ln cap, .int .i64 n, .int .i64 m] w fun e w' => e = .returned (.bool true) ∧ Below w.heap.size w w' := by
  have HF := Lib.hid hf
  have hln := (few_len hf).1
  rw [hn] at hln
  have HL := Lib.hid hl
  have HN := Lib.hid hn
  have hR := roomR_le room
  clear hf hl hn
  go_enter Try.func6, Try.ntmps6
  go_wp2_with fail
  refine (small_any w).mono ?_
  rintro e w1 ⟨rfl, hb1⟩
  go_wp2_with fail
  refine (few_any w1 A ln cap l HN.out hc (HL.out.below hb1)).mono ?_
  rintro e w2 ⟨rfl, rfl⟩
  rw [HF.out]
  go_wp2_with fail
  refine (new_held room w w1 hb1 hb1.size).mono ?_
  rintro e w2 ⟨g, p, rfl, hr, -, hg, hp⟩
  have HR := Lib.hid hr
  have hsz := hb1.size
  clear hr hb1
  generalize roomR room = R at *
  go_wp2_with fail
  go_loopw [12] (fun i wr => ∃ (k : Nat) (bs : List UInt8), k ≤ ln ∧ i = .int .i64 (k : Int) ∧ Hid (Held w.heap.size w wr g p R bs)) (fun i _ => ln - (intOf i).toNat)
  case atStart => exact ⟨0, [], Nat.zero_le _, rfl, HR⟩
  case round =>
    clear HR
    obtain ⟨k, bs, hk, rfl, HR⟩ := hrel
    by_cases hlt : k < ln
    · have hki : (k : Int) < (ln : Int) := by omega
      obtain ⟨x, ag, ao, -, hok, rfl, hag, hc0, hc1, hc2⟩ := HL.out.get (by rw [HN.out]; exact hlt) HR.out.bel
      have HOK := Lib.hid hok
      clear hok
      rcases Bool.eq_false_or_eq_true (x.which.tmod 3 == 0) with hw | hw
      · go_wp2_with fail
        refine (push_held HR.out hR x.A x.n x.c x.b (HOK.out.src.below HR.out.bel) HOK.out.nc (fun h0 y hy => by have := HOK.out.far h0 y hy; omega)).mono ?_
        rintro e w3 ⟨rfl, hr3, -⟩
        have HR3 := Lib.hid hr3
        clear hr3
        go_wp2_with fail
        go_roundw
        case rel => exact ⟨k + 1, _, by omega, by go_num, HR3⟩
        case measure => simp [intOf]; omega
      · go_wp2_with fail
        refine (pop_held HR.out hR x.q).mono ?_
        rintro e w3 ⟨o3, rfl, -, hr3, -⟩
        have HR3 := Lib.hid hr3
        clear hr3
        go_wp2_with fail
        go_roundw
        case rel => exact ⟨k + 1, _, by omega, by go_num, HR3⟩
        case measure => simp [intOf]; omega
    · obtain rfl : k = ln := by omega
      go_wp2_with fail
      refine (len_any g p R bs wr HR.out.rg).mono ?_
      rintro e w3 ⟨rfl, rfl⟩
      go_wp2_with fail
      refine (see_held HR.out hR n).mono ?_
      rintro e w3 ⟨o3, rfl, hf3, hr3, -⟩
      have HZ : Hid (n ≤ m → (bs.take (clampN n bs.length)).length ≤ (bs.take (clampN m bs.length)).length) := fun h => by
        rw [List.length_take, List.length_take]
        have : clampN n bs.length ≤ clampN m bs.length := by
          unfold clampN withinI
          split <;> split <;> (try split) <;> (try split) <;> omega
        omega
      obtain ⟨X, hX⟩ : ∃ X, X = bs.take (clampN n bs.length) := ⟨_, rfl⟩
      obtain ⟨Y, hY⟩ : ∃ Y, Y = bs.take (clampN m bs.length) := ⟨_, rfl⟩
      rw [← hX, ← hY] at HZ
      rw [← hX] at hf3
      rw [← hX]
      have HX := Lib.hid hX
      have HY := Lib.hid hY
      have k3 := conv8 (c := X.length) hf3.src
      have HR3 := Lib.hid hr3
      obtain ⟨sx, hsx⟩ : ∃ s : ByteArray, (⟨X.toArray⟩ : ByteArray) = s := ⟨_, rfl⟩
      obtain ⟨sy, hsy⟩ : ∃ s : ByteArray, (⟨Y.toArray⟩ : ByteArray) = s := ⟨_, rfl⟩
      have HZ2 : Hid (n ≤ m → ¬ sy.size < sx.size) := fun h => by
        have := HZ.out h
        rw [← hsx, ← hsy]
        show ¬ Y.length < X.length
        omega
      rw [hsx] at k3
      have HSX := Lib.hid hsx
      have HSY := Lib.hid hsy
      clear hf3 hr3 hX hY hsx hsy HR HZ
      go_wp2_with fail
      refine (see_held HR3.out hR m).mono ?_
      rintro e w4 ⟨o4, rfl, hf4, hr4, -⟩
      rw [← HY.out] at hf4
      rw [← HY.out]
      have k4 := conv8 (c := Y.length) hf4.src
      rw [HSY.out] at k4
      have HR4 := Lib.hid hr4
      clear hf4 hr4 HR3 k3
      go_wp2_with fail
      refine (len_any g p R bs w4 HR4.out.rg).mono ?_
      rintro e w5 ⟨rfl, rfl⟩
      clear k4
      by_cases hnm : n ≤ m
      case' pos => have hlt2 : decide (sy.size < sx.size) = false := decide_eq_false (HZ2.out hnm)
      all_goals
        go_wp2_with fail
        refine (see_held HR4.out hR n).mono ?_
        rintro e w6 ⟨o6, rfl, hf6, hr6, -⟩
        rw [← HX.out] at hf6
        rw [← HX.out]
        have k6 := conv8 (c := X.length) hf6.src
        rw [HSX.out] at k6
        have HR6 := Lib.hid hr6
        clear hf6 hr6
        go_wp2_with fail
        refine (pop_held HR6.out hR m).mono ?_
        rintro e w7 ⟨o7, rfl, hf7, hr7, -⟩
        rw [← HY.out] at hf7
        rw [← HY.out]
        have k7 := conv8 (c := Y.length) hf7.src
        rw [HSY.out] at k7
        have HR7 := Lib.hid hr7
        clear hf7 hr7
        go_wp2_with fail
        go_ret
        exact ⟨rfl, HR7.out.bel⟩

theorem walk (W : World) (room : Int) (_ : -9223372036854775808 ≤ room ∧ room ≤ 9223372036854775807) (A : Option Addr) (ln cap : Nat) (l : List Cl) (hle : ln ≤ cap) (hc : cap ≤ maxLen) (hn : l.length = ln) (hl : SrcL W A l)
    (n : Int) (_ : -9223372036854775808 ≤ n ∧ n ≤ 9223372036854775807) (m : Int) (_ : -9223372036854775808 ≤ m ∧ m ≤ 9223372036854775807) :
    Calls Try.prog 6 #[.int .i64 room, .slice A ln cap, .int .i64 n, .int .i64 m] W fun e w' => e = .returned (.bool true) ∧ Below W.heap.size W w' := by
  unfold maxLen at hc
  cases hf : fewB l with
  | true => exact walk_few W room n m A ln cap l hn (by omega) hl hf
  | false => exact walk_out W room n m A ln cap l hn (by omega) hl hf

set_option maxRecDepth 100000 in
set_option linter.unusedVariables false in
theorem lifted (os : Os) (started : os.Started) (H : Type) (enc : TypeId × Value → H) :
    ReturnsInHanded {} Try.checked os 6 .any (Rows.ringSeesSpec.pre6 enc Try.prog Try.f6 Rows.ringSeesRow.domain false) (Rows.ringSeesSpec.post enc Try.prog Try.f6 false true false false) := by
  refine returnsInHanded_of_change_sized (C := Try.checked) own started (by kernel_rfl) Try.func6
    (ChangeSpec.witness6 (enc := enc) (C := Try.checked) false ⟨#[], #[.int .i64 0, .slice none 0 0, .int .i64 0, .int .i64 0], []⟩ 8 (by kernel_rfl) (by kernel_rfl) (by kernel_rfl) (by kernel_rfl)) ?_
  intro W base args ds gs before hval0 hW hcnd hsz0 _
  have hval : ∀ (j : Nat) t v, Try.f6.params[j]? = some t → args[j]? = some v → Value.okWide Try.prog W .any base t v := hval0
  have hW' := hW
  obtain ⟨p, q, hA0, hV, rfl, hfz, hnd⟩ := hW
  have hA : DataW.TrodAll enc Try.prog W 0 (fun _ => true) true Try.f6.params.toList args.toList ds p := hA0
  have hsz : (DataW.weightsEach Try.prog (Try.f6.params.toList ++ Rows.ringSeesSpec.plain.varTypes Try.prog) (ds ++ gs)).all (· ≤ reachBytes) = true := hsz0
  rw [Try.params6] at hA hval hsz
  obtain ⟨v0, vs0, d0, ds0, p0, q0, hargs, rfl, rfl, h0, r0⟩ := trodAll_cons hA
  obtain ⟨v1, vs1, d1, ds1, p1, q1, rfl, rfl, rfl, h1, r1⟩ := trodAll_cons r0
  obtain ⟨v2, vs2, d2, ds2, p2, q2, rfl, rfl, rfl, h2, r2⟩ := trodAll_cons r1
  obtain ⟨v3, vs3, d3, ds3, p3, q3, rfl, rfl, rfl, h3, r3⟩ := trodAll_cons r2
  obtain ⟨rfl, rfl, rfl⟩ := trodAll_nil r3
  obtain rfl : args = #[v0, v1, v2, v3] := by cases args; simp_all
  obtain ⟨rfl, rfl⟩ := trodVars_none hV
  have k0 := h0
  have lt0 : ∀ x ∈ p0, x.block < W.heap.size := by obtain ⟨m, hm⟩ := k0; exact DataW.trod_lt m _ _ _ hm
  obtain ⟨a0, rfl, rfl, rfl, w0⟩ := open_int Try.underlying3 (hval 0 3 v0 rfl rfl) h0
  have b0 := int_of w0
  have k1 := h1
  have lt1 : ∀ x ∈ p1, x.block < W.heap.size := by obtain ⟨m, hm⟩ := k1; exact DataW.trod_lt m _ _ _ hm
  obtain ⟨A1, n1, cap1, xs1, rfl, le1, mx1, ln1, src1⟩ := open_calls (hval 1 22 v1 rfl rfl) h1 (reach_at hsz (j := 1) (t := 22) rfl rfl)
  have k2 := h2
  have lt2 : ∀ x ∈ p2, x.block < W.heap.size := by obtain ⟨m, hm⟩ := k2; exact DataW.trod_lt m _ _ _ hm
  obtain ⟨a2, rfl, rfl, rfl, w2⟩ := open_int Try.underlying3 (hval 2 3 v2 rfl rfl) h2
  have b2 := int_of w2
  have k3 := h3
  have lt3 : ∀ x ∈ p3, x.block < W.heap.size := by obtain ⟨m, hm⟩ := k3; exact DataW.trod_lt m _ _ _ hm
  obtain ⟨a3, rfl, rfl, rfl, w3⟩ := open_int Try.underlying3 (hval 3 3 v3 rfl rfl) h3
  have b3 := int_of w3
  clear hA0 hval0 hsz0
  refine (walk W a0 b0 A1 n1 cap1 xs1 le1 mx1 ln1 src1 a2 b2 a3 b3).mono fun e W' ⟨he, bel⟩ => ?_
  subst he
  exact ⟨_, rfl, _, _, _, [], _, [], hW', trodAll_mk1 (shut_bool Try.underlying4 _), (trodAll_cons_mk (Below.trod laidOut (by kernel_rfl) (of_decide_eq_true (by kernel_rfl)) k0 bel lt0) (trodAll_cons_mk (Below.trod laidOut (by kernel_rfl) (of_decide_eq_true (by kernel_rfl)) k1 bel lt1) (trodAll_cons_mk (Below.trod laidOut (by kernel_rfl) (of_decide_eq_true (by kernel_rfl)) k2 bel lt2) (trodAll_cons_mk (Below.trod laidOut (by kernel_rfl) (of_decide_eq_true (by kernel_rfl)) k3 bel lt3) trodAll_mk0)))), rfl, bel.frame _, fun h => by cases h⟩

theorem over : Rows.ringSeesRow.holds Try.pinned (OpenSpec.ofChange Rows.ringSeesSpec) :=
  OpenClaim.holds_of_wide 6 Try.f6 rfl rfl rfl rfl rfl rfl rfl ⟨rfl, rfl, rfl, rfl, rfl⟩ rfl rfl rfl rfl rfl (by kernel_rfl) Try.func6 (by kernel_rfl)
    (of_decide_eq_true (by kernel_rfl)) (by unfold Func.isWrapper; first | (rw [if_pos (by decide +kernel)]; kernel_rfl) | (rw [if_neg (by decide +kernel)]; exact ⟨rfl, rfl⟩))
    (fun os started H enc _ => lifted os started H enc)

theorem proved : Rows.RingSeesSaid := over
#print axioms proved
end Go.Proofs.Ytpdihniimnoeoaa.ringSees
