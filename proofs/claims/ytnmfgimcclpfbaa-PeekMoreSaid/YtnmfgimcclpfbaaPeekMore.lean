/-
  'Bytes may come while others are played' (hagioscopelaw06.PeekMore) holds: whatever the two parts and the number, the call returns true and leaves what was there as it was. No condition.
-/
import Derived.Test.YtnmfgimcclpfbaaPkSmall
import Derived.Test.YtnmfgimcclpfbaaLift
namespace Go.Proofs.Ytnmfgimcclpfbaa.peekMore
open Go.ChangeShapes Go.WideShapes Go.ChangeAt Go.RowKit
open Go.ChangeMaps (open_string shut_string)
open Go.Proofs.Ytnmfgimcclpfbaa.Wd Go.Proofs.Ytnmfgimcclpfbaa.Pk Go.Proofs.Ytnmfgimcclpfbaa.Lift

theorem walk_out (w : World) (A : Option Addr) (m c : Nat) (A2 : Option Addr) (m2 c2 : Nat) (n : Int) (hmx : m ≤ 9223372036854775807) (hmx2 : m2 ≤ 9223372036854775807) (h : 5000 < m ∨ 5000 < m2 ∨ n < 0 ∨ (m : Int) < n) :
    Calls Try.prog 5 #[.slice A m c, .slice A2 m2 c2, .int .i64 n] w fun e w' => e = .returned (.bool true) ∧ Below w.heap.size w w' := by
  have h' : (5000 : Int) < (m : Int) ∨ ((m : Int) ≤ 5000 ∧ (5000 : Int) < (m2 : Int)) ∨ ((m : Int) ≤ 5000 ∧ (m2 : Int) ≤ 5000 ∧ n < 0) ∨ ((m : Int) ≤ 5000 ∧ (m2 : Int) ≤ 5000 ∧ 0 ≤ n ∧ (m : Int) < n) := by omega
  clear h
  rcases h' with h1 | ⟨h1, h2⟩ | ⟨h1, h2, h3⟩ | ⟨h1, h2, h3, h4⟩
  all_goals
    go_enter Try.func5, Try.ntmps5
    go_wp2_with fail
    refine (small_any w).mono ?_
    rintro e w1 ⟨rfl, hb1⟩
    go_wp2_with fail
    refine (new_kept 16384 w w1 hb1 hb1.size).mono ?_
    rintro e w2 ⟨g, rfl, hr, -⟩
    have HL := Lib.hid hr.bel
    clear hr
    go_wp2_with fail
    go_ret
    exact ⟨rfl, HL.out⟩

theorem two_parts (a b : List UInt8) (n : Nat) (h : n ≤ a.length) : a.take n ++ (a ++ b).drop n = a ++ b := by
  rw [List.drop_append, Nat.sub_eq_zero_of_le h, List.drop_zero, ← List.append_assoc, List.take_append_drop]

set_option maxRecDepth 100000 in
set_option maxHeartbeats 1000000 in
theorem walk_within (w : World) (A : Option Addr) (m c : Nat) (a : List UInt8) (hs : Src w A m a) (hmc : m ≤ c) (A2 : Option Addr) (m2 c2 : Nat) (b : List UInt8) (hs2 : Src w A2 m2 b) (hmc2 : m2 ≤ c2) (n : Nat) (h1 : m ≤ 5000) (h2 : m2 ≤ 5000) (h3 : n ≤ m) :
    Calls Try.prog 5 #[.slice A m c, .slice A2 m2 c2, .int .i64 (n : Int)] w fun e w' => e = .returned (.bool true) ∧ Below w.heap.size w w' := by
  have j1 : (m : Int) ≤ 5000 := by omega
  have j2 : (m2 : Int) ≤ 5000 := by omega
  have j3 : (n : Int) ≤ (m : Int) := by omega
  have HS := Lib.hid hs
  have HS2 := Lib.hid hs2
  have r1 : roomK 16384 ([] : List UInt8).length m = m := by unfold roomK; simp; omega
  have r2 : roomK 16384 a.length m2 = m2 := by unfold roomK; rw [hs.1]; omega
  have f0 : ∀ k : Nat, decide (k < k) = false := fun k => decide_eq_false (Nat.lt_irrefl k)
  have HR1 := Lib.hid r1
  have HR2 := Lib.hid r2
  have HT1 := Lib.hid (show [] ++ a.take m = a from by rw [List.nil_append, List.take_of_length_le (by rw [hs.1]; exact Nat.le_refl _)])
  have HT2 := Lib.hid (show b.take m2 = b from List.take_of_length_le (by rw [hs2.1]; exact Nat.le_refl _))
  have HN1 := Lib.hid (show (a.drop 0).take (clampK (n : Int) (a.length - 0)) = a.take n from by rw [List.drop_zero, clampK_len, hs.1, Nat.sub_zero, Nat.min_eq_left h3])
  have HC1 := Lib.hid (show 0 + clampK (n : Int) (a.length - 0) = n from by rw [clampK_len, hs.1, Nat.sub_zero, Nat.min_eq_left h3, Nat.zero_add])
  have HN2 := Lib.hid (show ((a ++ b).drop n).take (clampK 20000 ((a ++ b).length - n)) = (a ++ b).drop n from by
    rw [show (20000 : Int) = ((20000 : Nat) : Int) from rfl, clampK_len]
    apply List.take_of_length_le
    have := hs.1
    have := hs2.1
    rw [List.length_drop, List.length_append]
    omega)
  have HSum := Lib.hid (two_parts a b n (by rw [hs.1]; exact h3))
  have HLen := Lib.hid (show (a ++ b).length = m + m2 from by rw [List.length_append, hs.1, hs2.1])
  have HTn := Lib.hid (show (a.take n).length = n from by rw [List.length_take, hs.1]; omega)
  have HDn := Lib.hid (show ((a ++ b).drop n).length = m + m2 - n from by rw [List.length_drop, List.length_append, hs.1, hs2.1])
  have HA1 := Lib.hid hs.1
  have HA2 := Lib.hid hs2.1
  clear hs hs2 r1 r2
  go_enter Try.func5, Try.ntmps5
  go_wp2_with fail
  refine (small_any w).mono ?_
  rintro e w1 ⟨rfl, hb1⟩
  go_wp2_with fail
  refine (new_kept 16384 w w1 hb1 hb1.size).mono ?_
  rintro e w2 ⟨g, rfl, hx2, -, -⟩
  have HX2 := Lib.hid (show Kept w.heap.size w w2 g none 16384 [] 0 false from hx2)
  clear hx2 hb1
  go_wp2_with fail
  refine (add_kept HX2.out (by decide) A m c a (HS.out.below HX2.out.bel) hmc).mono ?_
  rintro e w3 ⟨rfl, p3, hx3, -, -⟩
  rw [HR1.out] at hx3
  rw [HR1.out]
  rw [HT1.out, f0, Bool.or_false] at hx3
  have HX3 := Lib.hid hx3
  clear hx3 HX2
  go_wp2_with fail
  refine (next_kept HX3.out (by decide) (n : Int)).mono ?_
  rintro e w4 ⟨v4, rfl, ho4, hx4, -⟩
  rw [HN1.out] at ho4
  rw [HC1.out] at hx4
  obtain ⟨A4, c4, rfl, -, hs4, -⟩ := ho4.cut_
  obtain ⟨s1, hS1⟩ : ∃ s : ByteArray, (⟨(a.take n).toArray⟩ : ByteArray) = s := ⟨_, rfl⟩
  have k4 := con8 (c := c4) hs4
  rw [hS1] at k4
  have HX4 := Lib.hid hx4
  have hz1 : s1.size ≤ 5000 := by
    rw [← hS1]
    have : (a.take n).length = n := HTn.out
    show (a.take n).length ≤ 5000
    omega
  have HS1 := Lib.hid hS1
  rw [HTn.out] at k4
  rw [HTn.out]
  clear ho4 hx4 hs4 HX3 hS1
  go_wp2_with fail
  refine (add_kept HX4.out (by decide) A2 m2 c2 b (HS2.out.below HX4.out.bel) hmc2).mono ?_
  rintro e w5 ⟨rfl, p5, hx5, -, -⟩
  rw [HR2.out] at hx5
  rw [HR2.out]
  rw [HT2.out, f0, Bool.or_false] at hx5
  have HX5 := Lib.hid hx5
  clear hx5 HX4 k4
  go_wp2_with fail
  refine (next_kept HX5.out (by decide) 20000).mono ?_
  rintro e w6 ⟨v6, rfl, ho6, hx6, -⟩
  rw [HN2.out] at ho6
  obtain ⟨A6, c6, rfl, -, hs6, -⟩ := ho6.cut_
  obtain ⟨s2, hS2⟩ : ∃ s : ByteArray, (⟨((a ++ b).drop n).toArray⟩ : ByteArray) = s := ⟨_, rfl⟩
  have k6 := con8 (c := c6) hs6
  rw [hS2] at k6
  have HX6 := Lib.hid hx6
  have hz2 : s2.size ≤ 10000 := by
    rw [← hS2]
    have : ((a ++ b).drop n).length = m + m2 - n := HDn.out
    show ((a ++ b).drop n).length ≤ 10000
    omega
  rw [HDn.out] at k6
  rw [HDn.out]
  have kb1 := con8 (c := c) (HS.out.below HX6.out.bel)
  have kb2 := con8 (c := c2) (HS2.out.below HX6.out.bel)
  obtain ⟨sa, hSa⟩ : ∃ s : ByteArray, (⟨a.toArray⟩ : ByteArray) = s := ⟨_, rfl⟩
  obtain ⟨sb, hSb⟩ : ∃ s : ByteArray, (⟨b.toArray⟩ : ByteArray) = s := ⟨_, rfl⟩
  rw [hSa] at kb1
  rw [hSb] at kb2
  have hza : sa.size ≤ 5000 := by rw [← hSa]; show a.length ≤ 5000; rw [HA1.out]; exact h1
  have hzb : sb.size ≤ 5000 := by rw [← hSb]; show b.length ≤ 5000; rw [HA2.out]; exact h2
  have hq : (s1 ++ s2).toList = (sa ++ sb).toList := by
    congr 1
    rw [← HS1.out, ← hS2, ← hSa, ← hSb]
    apply ByteArray.ext
    rw [ByteArray.data_append, ByteArray.data_append]
    simp [HSum.out]
  clear ho6 hx6 hs6 HX5 hS2 hSa hSb HS1
  go_wp2_with fail
  refine (over_any HX6.out.pk).mono ?_
  rintro e w7 ⟨rfl, rfl⟩
  go_wp2_with fail
  refine (len_any HX6.out.pk).mono ?_
  rintro e w7 ⟨rfl, rfl⟩
  rw [HLen.out]
  have HB := Lib.hid HX6.out.bel
  have hadd : (((m + m2 : Nat) : Int) == (m : Int) + (m2 : Int)) = true := by rw [beq_iff_eq]; omega
  go_wp2_with fail
  go_ret
  exact ⟨by simp, HB.out⟩

theorem walk (W : World) (A : Option Addr) (m c : Nat) (a : List UInt8) (hmc : m ≤ c) (hc : c ≤ maxLen) (hs : Src W A m a) (A2 : Option Addr) (m2 c2 : Nat) (b : List UInt8) (hmc2 : m2 ≤ c2) (hc2 : c2 ≤ maxLen) (hs2 : Src W A2 m2 b)
    (n : Int) (_ : -9223372036854775808 ≤ n ∧ n ≤ 9223372036854775807) :
    Calls Try.prog 5 #[.slice A m c, .slice A2 m2 c2, .int .i64 n] W fun e w' => e = .returned (.bool true) ∧ Below W.heap.size W w' := by
  unfold maxLen at hc hc2
  by_cases h : 5000 < m ∨ 5000 < m2 ∨ n < 0 ∨ (m : Int) < n
  · exact walk_out W A m c A2 m2 c2 n (by omega) (by omega) h
  · obtain ⟨k, rfl⟩ : ∃ k : Nat, n = (k : Int) := ⟨n.toNat, by omega⟩
    exact walk_within W A m c a hs hmc A2 m2 c2 b hs2 hmc2 k (by omega) (by omega) (by omega)

set_option maxRecDepth 100000 in
set_option linter.unusedVariables false in
theorem lifted (os : Os) (started : os.Started) (H : Type) (enc : TypeId × Value → H) :
    ReturnsInHanded {} Try.checked os 5 .any (Rows.peekMoreSpec.pre6 enc Try.prog Try.f5 Rows.peekMoreRow.domain false) (Rows.peekMoreSpec.post enc Try.prog Try.f5 false true false false) := by
  refine returnsInHanded_of_change (C := Try.checked) own started (by kernel_rfl) Try.func5
    (ChangeSpec.witness6 (enc := enc) (C := Try.checked) false ⟨#[], #[.slice none 0 0, .slice none 0 0, .int .i64 0], []⟩ 8 (by kernel_rfl) (by kernel_rfl) (by kernel_rfl) (by kernel_rfl)) ?_
  intro W base args ds gs before hval0 hW hcnd _
  have hval : ∀ (j : Nat) t v, Try.f5.params[j]? = some t → args[j]? = some v → Value.okWide Try.prog W .any base t v := hval0
  have hW' := hW
  obtain ⟨p, q, hA0, hV, rfl, hfz, hnd⟩ := hW
  have hA : DataW.TrodAll enc Try.prog W 0 (fun _ => true) true Try.f5.params.toList args.toList ds p := hA0
  rw [Try.params5] at hA hval
  obtain ⟨v0, vs0, d0, ds0, p0, q0, hargs, rfl, rfl, h0, r0⟩ := trodAll_cons hA
  obtain ⟨v1, vs1, d1, ds1, p1, q1, rfl, rfl, rfl, h1, r1⟩ := trodAll_cons r0
  obtain ⟨v2, vs2, d2, ds2, p2, q2, rfl, rfl, rfl, h2, r2⟩ := trodAll_cons r1
  obtain ⟨rfl, rfl, rfl⟩ := trodAll_nil r2
  obtain rfl : args = #[v0, v1, v2] := by cases args; simp_all
  obtain ⟨rfl, rfl⟩ := trodVars_none hV
  have k0 := h0
  have lt0 : ∀ x ∈ p0, x.block < W.heap.size := by obtain ⟨m, hm⟩ := k0; exact DataW.trod_lt m _ _ _ hm
  obtain ⟨A0, n0, cap0, xs0, rfl, le0, mx0, src0⟩ := open_bytes (hval 0 29 v0 rfl rfl) h0
  have k1 := h1
  have lt1 : ∀ x ∈ p1, x.block < W.heap.size := by obtain ⟨m, hm⟩ := k1; exact DataW.trod_lt m _ _ _ hm
  obtain ⟨A1, n1, cap1, xs1, rfl, le1, mx1, src1⟩ := open_bytes (hval 1 29 v1 rfl rfl) h1
  have k2 := h2
  have lt2 : ∀ x ∈ p2, x.block < W.heap.size := by obtain ⟨m, hm⟩ := k2; exact DataW.trod_lt m _ _ _ hm
  obtain ⟨a2, rfl, rfl, rfl, w2⟩ := open_int Try.underlying3 (hval 2 3 v2 rfl rfl) h2
  have b2 := int_of w2
  clear hA0 hval0
  refine (walk W A0 n0 cap0 xs0 le0 mx0 src0 A1 n1 cap1 xs1 le1 mx1 src1 a2 b2).mono fun e W' ⟨he, bel⟩ => ?_
  subst he
  exact ⟨_, rfl, _, _, _, [], _, [], hW', trodAll_mk1 (shut_bool Try.underlying4 _), (trodAll_cons_mk (Below.trod laidOut (by kernel_rfl) (of_decide_eq_true (by kernel_rfl)) k0 bel lt0) (trodAll_cons_mk (Below.trod laidOut (by kernel_rfl) (of_decide_eq_true (by kernel_rfl)) k1 bel lt1) (trodAll_cons_mk (Below.trod laidOut (by kernel_rfl) (of_decide_eq_true (by kernel_rfl)) k2 bel lt2) trodAll_mk0))), rfl, bel.frame _, fun h => by cases h⟩

theorem over : Rows.peekMoreRow.holds Try.pinned (OpenSpec.ofChange Rows.peekMoreSpec) :=
  OpenClaim.holds_of_wide 5 Try.f5 rfl rfl rfl rfl rfl rfl rfl ⟨rfl, rfl, rfl, rfl, rfl⟩ rfl rfl rfl rfl rfl (by kernel_rfl) Try.func5 (by kernel_rfl)
    (of_decide_eq_true (by kernel_rfl)) (by unfold Func.isWrapper; first | (rw [if_pos (by decide +kernel)]; kernel_rfl) | (rw [if_neg (by decide +kernel)]; exact ⟨rfl, rfl⟩))
    (fun os started H enc _ => lifted os started H enc)

theorem proved : Rows.PeekMoreSaid := over
#print axioms proved
end Go.Proofs.Ytnmfgimcclpfbaa.peekMore
