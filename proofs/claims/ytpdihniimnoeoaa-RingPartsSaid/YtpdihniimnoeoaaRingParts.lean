/-
  'Bytes may be pushed in two parts, or popped so' (hagioscopelaw05.RingParts) holds: whatever the room, the bytes and the numbers, the call returns true and leaves what was there as it was. No condition.
-/
import Derived.Test.YtpdihniimnoeoaaRgSmall
import Derived.Test.YtpdihniimnoeoaaLift
import Derived.Deep.RegionHeld
namespace Go.Proofs.Ytpdihniimnoeoaa.ringParts
open Go.ChangeShapes Go.WideShapes Go.ChangeAt Go.RowKit
open Go.ChangeMaps (open_string shut_string)
open Go.Proofs.Ytpdihniimnoeoaa.Wd Go.Proofs.Ytpdihniimnoeoaa.Rg Go.Proofs.Ytpdihniimnoeoaa.Lift

theorem walk_out (w : World) (room at_ n : Int) (A : Option Addr) (m c : Nat) (hmx : m ≤ 9223372036854775807) (h : 2000 < m ∨ at_ < 0 ∨ (m : Int) < at_ ∨ n < 0 ∨ 3000 < n) :
    Calls Try.prog 7 #[.int .i64 room, .slice A m c, .int .i64 at_, .int .i64 n] w fun e w' => e = .returned (.bool true) ∧ Below w.heap.size w w' := by
  have h' : (2000 : Int) < (m : Int) ∨ ((m : Int) ≤ 2000 ∧ at_ < 0) ∨ ((m : Int) ≤ 2000 ∧ 0 ≤ at_ ∧ (m : Int) < at_) ∨ ((m : Int) ≤ 2000 ∧ 0 ≤ at_ ∧ at_ ≤ (m : Int) ∧ n < 0) ∨ ((m : Int) ≤ 2000 ∧ 0 ≤ at_ ∧ at_ ≤ (m : Int) ∧ 0 ≤ n ∧ 3000 < n) := by omega
  clear h
  rcases h' with h1 | ⟨h1, h2⟩ | ⟨h1, h2, h3⟩ | ⟨h1, h2, h3, h4⟩ | ⟨h1, h2, h3, h4, h5⟩
  all_goals
    go_enter Try.func7, Try.ntmps7
    go_wp2_with fail
    refine (small_any w).mono ?_
    rintro e w1 ⟨rfl, hb1⟩
    go_wp2_with fail
    refine (new_held room w w1 hb1 hb1.size).mono ?_
    rintro e w2 ⟨g, p, rfl, hr, -⟩
    have HR := Lib.hid hr
    clear hr
    go_wp2_with fail
    refine (new_held room w w2 HR.out.bel HR.out.hB).mono ?_
    rintro e w3 ⟨g2, p2, rfl, hr, -⟩
    have HL := Lib.hid hr.bel
    clear hr
    go_wp2_with fail
    go_ret
    exact ⟨rfl, HL.out⟩

theorem two_pushes (b : List UInt8) (R t : Nat) (ht : t ≤ b.length) :
    roomN R 0 b.length = roomN R 0 t + roomN R (roomN R 0 t) (b.length - t) ∧ (b.take t).take (roomN R 0 t) ++ (b.drop t).take (roomN R (roomN R 0 t) (b.length - t)) = b.take (roomN R 0 b.length) := by
  have h1 : roomN R 0 b.length = roomN R 0 t + roomN R (roomN R 0 t) (b.length - t) := by unfold roomN; omega
  refine ⟨h1, ?_⟩
  rw [h1]
  unfold roomN
  by_cases h : t ≤ R
  · have e1 : min t (R - 0) = t := by omega
    rw [e1, List.take_take, Nat.min_self]
    rw [List.take_add]
  · have e1 : min t (R - 0) = R := by omega
    rw [e1, show min (b.length - t) (R - R) = 0 from by omega, List.take_take, List.take_zero, List.append_nil, Nat.add_zero, Nat.min_eq_left (by omega)]
theorem two_pops (T : List UInt8) (N : Nat) :
    T.take (clampN (N : Int) T.length) ++ (T.drop (clampN (N : Int) T.length)).take (clampN (N : Int) (T.drop (clampN (N : Int) T.length)).length) = T.take (clampN ((2 * N : Nat) : Int) T.length) := by
  rw [clampN_len, clampN_len, clampN_len]
  have e : min (2 * N) T.length = min N T.length + min N (T.drop (min N T.length)).length := by rw [List.length_drop]; omega
  rw [e, List.take_add]

set_option maxRecDepth 100000 in
set_option maxHeartbeats 1000000 in
theorem walk_in_bounds (w : World) (room : Int) (t n : Nat) (A : Option Addr) (m c : Nat) (b : List UInt8) (hs : Src w A m b) (hmc : m ≤ c) (h1 : m ≤ 2000) (h2 : t ≤ m) (h3 : n ≤ 3000) :
    Calls Try.prog 7 #[.int .i64 room, .slice A m c, .int .i64 (t : Int), .int .i64 (n : Int)] w fun e w' => e = .returned (.bool true) ∧ Below w.heap.size w w' := by
  have hR := roomR_le room
  have HS := Lib.hid hs
  have HBL := Lib.hid hs.1
  have j1 : (m : Int) ≤ 2000 := by omega
  have j2 : (t : Int) ≤ (m : Int) := by omega
  have j3 : (n : Int) ≤ 3000 := by omega
  have H2 := two_pushes b (roomR room) t (by rw [hs.1]; exact h2)
  have H2a := Lib.hid H2.1
  have H2b := Lib.hid H2.2
  rw [hs.1] at H2a H2b
  have hle1 : roomN (roomR room) 0 t ≤ t := Nat.min_le_left _ _
  have hle2 : roomN (roomR room) (roomN (roomR room) 0 t) (m - t) ≤ m - t := Nat.min_le_left _ _
  have HT0 := Lib.hid (show (b.take t).length = t from by rw [List.length_take, hs.1]; omega)
  have HTT := Lib.hid (two_pops (b.take (roomN (roomR room) 0 m)) n)
  clear hs H2
  go_enter Try.func7, Try.ntmps7
  go_wp2_with fail
  refine (small_any w).mono ?_
  rintro e w1 ⟨rfl, hb1⟩
  go_wp2_with fail
  refine (new_held room w w1 hb1 hb1.size).mono ?_
  rintro e w2 ⟨g, p, rfl, hx2, -, hg, hp⟩
  have HX2 := Lib.hid hx2
  have hlt2 := hx2.rg.lt
  clear hx2
  go_wp2_with fail
  refine (new_held room w w2 HX2.out.bel HX2.out.hB).mono ?_
  rintro e w3 ⟨g2, p2, rfl, hy3, hb3, hg2, hp2⟩
  have HX3 := Lib.hid (HX2.out.same (But.of_below hb3 []))
  have HY3 := Lib.hid hy3
  have HA := Lib.hid (show 0 < m → ∀ x, A = some x → x.block < w1.heap.size from fun h0 x hx => by
    obtain ⟨ad, e, hlt, _⟩ := HS.out.2 h0
    rw [hx] at e
    injection e with e
    subst e
    have := hb1.size
    omega)
  clear HX2 hy3 hb3 hb1
  generalize roomR room = R at *
  go_wp2_with fail
  refine (push_held HX3.out hR A m c b (HS.out.below HX3.out.bel) hmc (fun h0 x hx => by have := HA.out h0 x hx; omega)).mono ?_
  rintro e w4 ⟨rfl, hx4, hb4⟩
  have HX4 := Lib.hid (show Held w.heap.size w w4 g p R (b.take (roomN R 0 m)) from hx4)
  have HY4 := Lib.hid (HY3.out.beside hb4 (by simp; omega) (by simp; omega) hx4.bel)
  rw [show roomN R ([] : List UInt8).length m = roomN R 0 m from rfl]
  have hsl1 := fun w' => slice_to und8s size8 A m c w' t (by omega)
  have hsl2 := fun w' => slice_from und8s size8 A m c w' t (by omega)
  clear hx4 hb4 HX3 HY3
  go_wp2_with fail
  refine (push_held HY4.out hR A t c (b.take t) ((HS.out.below HY4.out.bel).take h2) (by omega) (fun h0 x hx => by have := HA.out (by omega) x hx; omega)).mono ?_
  rintro e w5 ⟨rfl, hy5, hb5⟩
  have HY5 := Lib.hid (show Held w.heap.size w w5 g2 p2 R ((b.take t).take (roomN R 0 t)) from hy5)
  have HX5 := Lib.hid (HX4.out.beside hb5 (by simp; omega) (by simp; omega) hy5.bel)
  rw [show roomN R ([] : List UInt8).length t = roomN R 0 t from rfl]
  have HL5 := Lib.hid (show ((b.take t).take (roomN R 0 t)).length = roomN R 0 t from by rw [List.length_take, HT0.out]; omega)
  clear hy5 hb5 HX4 HY4
  go_wp2_with fail
  have hs5 : Src w5 (slid A c t) (m - t) (b.drop t) := by
    have := (HS.out.below HY5.out.bel).cut (m := c) (l := t) (hi := m) h2 (Nat.le_refl _) hmc
    rwa [List.take_of_length_le (by rw [HBL.out]; omega)] at this
  refine (push_held HY5.out hR (slid A c t) (m - t) (c - t) (b.drop t) hs5 (by omega) (fun h0 x hx => by
    obtain ⟨y, hy, hyx⟩ := slid_block hx
    have := HA.out (by omega) y hy
    omega)).mono ?_
  rintro e w6 ⟨rfl, hy6, hb6⟩
  rw [HL5.out] at hy6
  rw [HL5.out]
  rw [H2b.out] at hy6
  have HY6 := Lib.hid hy6
  have HX6 := Lib.hid (HX5.out.beside hb6 (by simp; omega) (by simp; omega) hy6.bel)
  clear hy6 hb6 HX5 HY5 hsl1 hsl2 hs5
  generalize b.take (roomN R 0 m) = T at *
  have q1 : (((roomN R 0 m : Nat) : Int) == ((roomN R 0 t : Nat) : Int) + ((roomN R (roomN R 0 t) (m - t) : Nat) : Int)) = true := by have := H2a.out; rw [beq_iff_eq]; omega
  have q2 : (((roomN R 0 m : Nat) : Int) != ((roomN R 0 t : Nat) : Int) + ((roomN R (roomN R 0 t) (m - t) : Nat) : Int)) = false := by rw [bne, q1]; rfl
  have kd1 : roomN R 0 t ≤ 2000 := by omega
  have kd2 : roomN R (roomN R 0 t) (m - t) ≤ 2000 := by omega
  clear H2a HT0 HL5 hle1 hle2
  generalize roomN R (roomN R 0 t) (m - t) = k2 at *
  generalize roomN R 0 t = k1 at *
  generalize roomN R 0 m = K at *
  go_wp2_with fail
  refine (len_any g p R T w6 HX6.out.rg).mono ?_
  rintro e w7 ⟨rfl, rfl⟩
  go_wp2_with fail
  refine (len_any g2 p2 R T w6 HY6.out.rg).mono ?_
  rintro e w7 ⟨rfl, rfl⟩
  go_wp2_with fail
  clear q1 q2
  obtain ⟨T1, hT1⟩ : ∃ T1, T1 = T.take (clampN (n : Int) T.length) := ⟨_, rfl⟩
  obtain ⟨D1, hD1⟩ : ∃ D1, D1 = T.drop (clampN (n : Int) T.length) := ⟨_, rfl⟩
  obtain ⟨T2, hT2⟩ : ∃ T2, T2 = D1.take (clampN (n : Int) D1.length) := ⟨_, rfl⟩
  obtain ⟨T3, hT3⟩ : ∃ T3, T3 = T.take (clampN ((2 * n : Nat) : Int) T.length) := ⟨_, rfl⟩
  have HT1 := Lib.hid hT1
  have HD1 := Lib.hid hD1
  have HT2 := Lib.hid hT2
  have HT3 := Lib.hid hT3
  have HSum := Lib.hid (show T1 ++ T2 = T3 from by rw [hT3, ← HTT.out, hT2, hD1, hT1])
  have hl1 : T1.length ≤ 3000 := by rw [hT1, List.length_take, clampN_len]; omega
  have hl2 : T2.length ≤ 3000 := by rw [hT2, List.length_take, clampN_len]; omega
  obtain ⟨s1, hS1⟩ : ∃ s : ByteArray, (⟨T1.toArray⟩ : ByteArray) = s := ⟨_, rfl⟩
  obtain ⟨s2, hS2⟩ : ∃ s : ByteArray, (⟨T2.toArray⟩ : ByteArray) = s := ⟨_, rfl⟩
  obtain ⟨s3, hS3⟩ : ∃ s : ByteArray, (⟨T3.toArray⟩ : ByteArray) = s := ⟨_, rfl⟩
  have hz1 : s1.size ≤ 3000 := by rw [← hS1]; exact hl1
  have hz2 : s2.size ≤ 3000 := by rw [← hS2]; exact hl2
  have HQ := Lib.hid (show s1 ++ s2 = s3 from by
    rw [← hS1, ← hS2, ← hS3, ← HSum.out]
    apply ByteArray.ext
    rw [ByteArray.data_append]
    simp)
  have HS1 := Lib.hid hS1
  have HS2 := Lib.hid hS2
  have HS3 := Lib.hid hS3
  clear hT1 hD1 hT2 hT3 HTT hS1 hS2 hS3 HSum
  go_region_held (fun _ => True) (exact True.intro)
    (first
      | (go_at_call 15; refine (pop_held (HX6.out.drewN 1) hR (n : Int)).mono ?_; rintro e w7 ⟨o7, rfl, hf7, hx7, hb7⟩; rw [← HT1.out] at hf7; rw [← HT1.out]; rw [← HD1.out] at hx7; have k7 := conv8 (c := T1.length) hf7.src; rw [HS1.out] at k7; have HX7 := Lib.hid hx7; have HF7 := Lib.hid hf7; have HY7 := Lib.hid ((HY6.out.drewN 1).beside hb7 (by simp; omega) (by simp; omega) hx7.bel); have HO7 := Lib.hid hf7.1; clear hf7 hx7 hb7)
      | (go_at_call 15; refine (pop_held HX7.out hR (n : Int)).mono ?_; rintro e w8 ⟨o8, rfl, hf8, hx8, hb8⟩; rw [← HT2.out] at hf8; rw [← HT2.out]; have k8 := conv8 (c := T2.length) hf8.src; rw [HS2.out] at k8; have k78 := conv8 (c := T1.length) (HF7.out.src.but hb8 (fun _ x hx => by injection hx with hx; subst hx; have := HO7.out; have h9 : (w6.drewN 1).heap.size = w6.heap.size := rfl; have := HX6.out.rg.lt; show o7 ∉ [g]; simp; omega)); rw [HS1.out] at k78; have HX8 := Lib.hid hx8; have HY8 := Lib.hid (HY7.out.beside hb8 (by simp; omega) (by simp; omega) hx8.bel); clear hf8 hx8 hb8))
  all_goals
    have hw2 : IntKind.i64.wrap ((2 : Int) * (n : Int)) = ((2 * n : Nat) : Int) := by rw [IntWalk.i64_in _ (by omega)]; omega
    go_wp2_with fail
    refine (pop_held HY8.out hR ((2 * n : Nat) : Int)).mono ?_
    rintro e w9 ⟨o9, rfl, hf9, hy9, -⟩
    rw [← HT3.out] at hf9
    rw [← HT3.out]
    have k9 := conv8 (c := T3.length) hf9.src
    rw [HS3.out] at k9
    have HY9 := Lib.hid hy9
    clear hf9 hy9
    go_wp2_with fail
    go_ret
    exact ⟨by rw [HQ.out]; simp, HY9.out.bel⟩

theorem walk (W : World) (room : Int) (_ : -9223372036854775808 ≤ room ∧ room ≤ 9223372036854775807) (A : Option Addr) (m c : Nat) (b : List UInt8) (hmc : m ≤ c) (hc : c ≤ maxLen) (hs : Src W A m b)
    (at_ : Int) (_ : -9223372036854775808 ≤ at_ ∧ at_ ≤ 9223372036854775807) (n : Int) (_ : -9223372036854775808 ≤ n ∧ n ≤ 9223372036854775807) :
    Calls Try.prog 7 #[.int .i64 room, .slice A m c, .int .i64 at_, .int .i64 n] W fun e w' => e = .returned (.bool true) ∧ Below W.heap.size W w' := by
  unfold maxLen at hc
  by_cases h : 2000 < m ∨ at_ < 0 ∨ (m : Int) < at_ ∨ n < 0 ∨ 3000 < n
  · exact walk_out W room at_ n A m c (by omega) h
  · obtain ⟨t, rfl⟩ : ∃ t : Nat, at_ = (t : Int) := ⟨at_.toNat, by omega⟩
    obtain ⟨k, rfl⟩ : ∃ k : Nat, n = (k : Int) := ⟨n.toNat, by omega⟩
    exact walk_in_bounds W room t k A m c b hs hmc (by omega) (by omega) (by omega)

set_option maxRecDepth 100000 in
set_option linter.unusedVariables false in
theorem lifted (os : Os) (started : os.Started) (H : Type) (enc : TypeId × Value → H) :
    ReturnsInHanded {} Try.checked os 7 .any (Rows.ringPartsSpec.pre6 enc Try.prog Try.f7 Rows.ringPartsRow.domain false) (Rows.ringPartsSpec.post enc Try.prog Try.f7 false true false false) := by
  refine returnsInHanded_of_change (C := Try.checked) own started (by kernel_rfl) Try.func7
    (ChangeSpec.witness6 (enc := enc) (C := Try.checked) false ⟨#[], #[.int .i64 0, .slice none 0 0, .int .i64 0, .int .i64 0], []⟩ 8 (by kernel_rfl) (by kernel_rfl) (by kernel_rfl) (by kernel_rfl)) ?_
  intro W base args ds gs before hval0 hW hcnd _
  have hval : ∀ (j : Nat) t v, Try.f7.params[j]? = some t → args[j]? = some v → Value.okWide Try.prog W .any base t v := hval0
  have hW' := hW
  obtain ⟨p, q, hA0, hV, rfl, hfz, hnd⟩ := hW
  have hA : DataW.TrodAll enc Try.prog W 0 (fun _ => true) true Try.f7.params.toList args.toList ds p := hA0
  rw [Try.params7] at hA hval
  obtain ⟨v0, vs0, d0, ds0, p0, q0, hargs, rfl, rfl, h0, r0⟩ := trodAll_cons hA
  obtain ⟨v1, vs1, d1, ds1, p1, q1, rfl, rfl, rfl, h1, r1⟩ := trodAll_cons r0
  obtain ⟨v2, vs2, d2, ds2, p2, q2, rfl, rfl, rfl, h2, r2⟩ := trodAll_cons r1
  obtain ⟨v3, vs3, d3, ds3, p3, q3, rfl, rfl, rfl, h3, r3⟩ := trodAll_cons r2
  obtain ⟨rfl, rfl, rfl⟩ := trodAll_nil r3
  obtain rfl : args = #[v0, v1, v2, v3] := by cases args; simp_all
  obtain ⟨rfl, rfl⟩ := trodVars_none hV
  have k0 := h0
  have lt0 : ∀ x ∈ p0, x.block < W.heap.size := by obtain ⟨m, hm⟩ := k0; exact DataW.trod_lt m _ _ _ hm
  obtain ⟨a0, rfl, rfl, rfl, w0⟩ := open_int Try.underlying3 (hval 0 3 v0 rfl rfl) h0
  have b0 := int_of w0
  have k1 := h1
  have lt1 : ∀ x ∈ p1, x.block < W.heap.size := by obtain ⟨m, hm⟩ := k1; exact DataW.trod_lt m _ _ _ hm
  obtain ⟨A1, n1, cap1, xs1, rfl, le1, mx1, src1⟩ := open_bytes (hval 1 29 v1 rfl rfl) h1
  have k2 := h2
  have lt2 : ∀ x ∈ p2, x.block < W.heap.size := by obtain ⟨m, hm⟩ := k2; exact DataW.trod_lt m _ _ _ hm
  obtain ⟨a2, rfl, rfl, rfl, w2⟩ := open_int Try.underlying3 (hval 2 3 v2 rfl rfl) h2
  have b2 := int_of w2
  have k3 := h3
  have lt3 : ∀ x ∈ p3, x.block < W.heap.size := by obtain ⟨m, hm⟩ := k3; exact DataW.trod_lt m _ _ _ hm
  obtain ⟨a3, rfl, rfl, rfl, w3⟩ := open_int Try.underlying3 (hval 3 3 v3 rfl rfl) h3
  have b3 := int_of w3
  clear hA0 hval0
  refine (walk W a0 b0 A1 n1 cap1 xs1 le1 mx1 src1 a2 b2 a3 b3).mono fun e W' ⟨he, bel⟩ => ?_
  subst he
  exact ⟨_, rfl, _, _, _, [], _, [], hW', trodAll_mk1 (shut_bool Try.underlying4 _), (trodAll_cons_mk (Below.trod laidOut (by kernel_rfl) (of_decide_eq_true (by kernel_rfl)) k0 bel lt0) (trodAll_cons_mk (Below.trod laidOut (by kernel_rfl) (of_decide_eq_true (by kernel_rfl)) k1 bel lt1) (trodAll_cons_mk (Below.trod laidOut (by kernel_rfl) (of_decide_eq_true (by kernel_rfl)) k2 bel lt2) (trodAll_cons_mk (Below.trod laidOut (by kernel_rfl) (of_decide_eq_true (by kernel_rfl)) k3 bel lt3) trodAll_mk0)))), rfl, bel.frame _, fun h => by cases h⟩

theorem over : Rows.ringPartsRow.holds Try.pinned (OpenSpec.ofChange Rows.ringPartsSpec) :=
  OpenClaim.holds_of_wide 7 Try.f7 rfl rfl rfl rfl rfl rfl rfl ⟨rfl, rfl, rfl, rfl, rfl⟩ rfl rfl rfl rfl rfl (by kernel_rfl) Try.func7 (by kernel_rfl)
    (of_decide_eq_true (by kernel_rfl)) (by unfold Func.isWrapper; first | (rw [if_pos (by decide +kernel)]; kernel_rfl) | (rw [if_neg (by decide +kernel)]; exact ⟨rfl, rfl⟩))
    (fun os started H enc _ => lifted os started H enc)

theorem proved : Rows.RingPartsSaid := over
#print axioms proved
end Go.Proofs.Ytpdihniimnoeoaa.ringParts
