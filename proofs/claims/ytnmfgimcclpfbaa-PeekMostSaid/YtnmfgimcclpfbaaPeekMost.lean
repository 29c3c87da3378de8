/-
  'A buffer never has more than it may, and it is Over from then on just when more came' (hagioscopelaw06.PeekMost) holds: whatever the limit and the parts, the call returns true and leaves what was there as it was. No condition.
-/
import Derived.Test.YtnmfgimcclpfbaaPkSmall
import Derived.Test.YtnmfgimcclpfbaaPkRef
import Derived.Test.YtnmfgimcclpfbaaLiftRows
import Derived.LoopTactic
import Derived.Deep.RegionHeld
namespace Go.Proofs.Ytnmfgimcclpfbaa.peekMost
open Go.ChangeShapes Go.WideShapes Go.ChangeAt Go.RowKit
open Go.ChangeMaps (open_string shut_string)
open Go.Proofs.Ytnmfgimcclpfbaa.Wd Go.Proofs.Ytnmfgimcclpfbaa.Pk Go.Proofs.Ytnmfgimcclpfbaa.Lift

theorem walk_out (w : World) (most : Int) (A : Option Addr) (ln cap : Nat) (hc : ln ≤ 9223372036854775807) (h : 50 < ln) :
    Calls Try.prog 6 #[.int .i64 most, .slice A ln cap] w fun e w' => e = .returned (.bool true) ∧ Below w.heap.size w w' := by
  have h' : (50 : Int) < (ln : Int) := by omega
  go_enter Try.func6, Try.ntmps6
  go_wp2_with fail
  refine (small_any w).mono ?_
  rintro e w1 ⟨rfl, hb1⟩
  go_wp2_with fail
  refine (new_kept most w w1 hb1 hb1.size).mono ?_
  rintro e w2 ⟨g, rfl, hr, -⟩
  have HL := Lib.hid hr.bel
  clear hr
  go_wp2_with fail
  go_ret
  exact ⟨rfl, HL.out⟩

set_option maxRecDepth 100000 in
set_option maxHeartbeats 1000000 in
theorem walk_few (w : World) (most : Int) (A : Option Addr) (ln cap : Nat) (l : List Sb) (hn : l.length = ln) (hl : SrcRows w A l) (h : ln ≤ 50) :
    Calls Try.prog 6 #[.int .i64 most, .slice A ln cap] w fun e w' => e = .returned (.bool true) ∧ Below w.heap.size w w' := by
  have h' : (ln : Int) ≤ 50 := by omega
  have HL := Lib.hid hl
  have HN := Lib.hid hn
  have hM := mostR_le most
  clear hl hn
  go_enter Try.func6, Try.ntmps6
  go_wp2_with fail
  refine (small_any w).mono ?_
  rintro e w1 ⟨rfl, hb1⟩
  go_wp2_with fail
  refine (new_kept most w w1 hb1 hb1.size).mono ?_
  rintro e w2 ⟨g, rfl, hr, -⟩
  have HR := Lib.hid hr
  clear hr hb1
  obtain ⟨M1, hM1⟩ : ∃ M : Int, M = if (16384 : Int) < most then 16384 else most := ⟨_, rfl⟩
  have HM1 := Lib.hid hM1
  have HM2 := Lib.hid (most_minmax most M1 hM1)
  clear hM1
  generalize mostR most = M at *
  go_wp2_with (first
    | (with_reducible refine wpList_min2 (some 28) rfl rfl _ _ _ rfl most 16384 M1 rfl rfl HM1.out ?_)
    | (with_reducible refine wpList_max2 (some 29) rfl rfl _ _ _ rfl 0 M1 (M : Int) rfl rfl HM2.out ?_))
  clear HM1 HM2
  go_loopw [8, 9] (fun t i wr => ∃ (k T : Nat) (p : Option Nat) (bs : List UInt8), k ≤ ln ∧ i = .int .i64 (k : Int) ∧ t = .int .i64 (T : Int) ∧ T ≤ 1000 * k ∧ bs.length = min T M ∧ Hid (Kept w.heap.size w wr g p M bs 0 (decide (M < T)))) (fun _ i _ => ln - (intOf i).toNat)
  case atStart => exact ⟨0, 0, none, [], Nat.zero_le _, rfl, rfl, Nat.le_refl _, by simp, HR⟩
  case round =>
    clear HR
    obtain ⟨k, T, p, bs, hk, rfl, rfl, hT, hbl, HR⟩ := hrel
    have HBL := Lib.hid hbl
    clear hbl
    by_cases hlt : k < ln
    · have hki : (k : Int) < (ln : Int) := by omega
      obtain ⟨x, ag, ao, -, hok, rfl, hag, hc0⟩ := HL.out.get (by rw [HN.out]; exact hlt) HR.out.bel
      have HOK := Lib.hid hok
      clear hok
      obtain ⟨XA, hXA⟩ : ∃ A, A = x.A := ⟨_, rfl⟩
      obtain ⟨m, hxm⟩ : ∃ m, m = x.n := ⟨_, rfl⟩
      obtain ⟨xc, hxc⟩ : ∃ c, c = x.c := ⟨_, rfl⟩
      have HSB := Lib.hid HOK.out.src
      have HNC := Lib.hid HOK.out.nc
      rw [← hXA, ← hxm, ← hxc] at hc0
      rw [← hXA, ← hxm] at HSB
      rw [← hxm, ← hxc] at HNC
      clear hXA hxm hxc HOK
      have HC := Lib.hid (fun w' (h : Below w.heap.size w w') => show w'.cell? ⟨ag, ao + k, none⟩ = some (.slice XA m xc) from (h.cell (p := ⟨ag, _, none⟩) hag).trans ((HR.out.bel.cell (p := ⟨ag, _, none⟩) hag).symm.trans hc0))
      by_cases hm : 1000 < m
      · have hmi : (1000 : Int) < (m : Int) := by omega
        go_wp2_with fail
        go_ret
        exact ⟨rfl, HR.out.bel⟩
      have hmi : (m : Int) ≤ 1000 := by omega
      go_wp2_with fail
      refine (len_any HR.out.pk).mono ?_
      rintro e w3 ⟨rfl, rfl⟩
      go_wp2_with fail
      refine (add_kept HR.out hM XA m xc x.b (HSB.out.below HR.out.bel) HNC.out).mono ?_
      rintro e w4 ⟨rfl, p4, hx4, -, -⟩
      obtain ⟨b4, hb4⟩ : ∃ b, b = bs ++ x.b.take (roomK M bs.length m) := ⟨_, rfl⟩
      have hl4 : b4.length = bs.length + roomK M bs.length m := by rw [hb4, List.length_append, List.length_take, HSB.out.1]; unfold roomK; omega
      rw [← hb4] at hx4
      clear hb4
      have hbl := HBL.out
      have hov : (decide (M < T) || decide (roomK M bs.length m < m)) = decide (M < T + m) := by
        rw [Bool.eq_iff_iff, Bool.or_eq_true, decide_eq_true_iff, decide_eq_true_iff, decide_eq_true_iff]
        unfold roomK
        omega
      rw [hov] at hx4
      have hk1 : roomK M bs.length m ≤ m := Nat.min_le_left _ _
      have hk2 : roomK M bs.length m < m → b4.length = M := by
        unfold roomK at hl4 ⊢
        omega
      have hk3 : b4.length = min (T + m) M := by
        unfold roomK at hl4
        omega
      have HX4 := Lib.hid hx4
      have hc4 := HC.out _ hx4.bel
      clear hov hx4 hc0 HR
      have HLen := fun u (h : Kept w.heap.size w u g p4 M b4 0 (decide (M < T + m))) => len_any h.pk
      have hdec : decide (M < T + m) = decide ((M : Int) < (T : Int) + (m : Int)) := by rw [decide_eq_decide]; omega
      have HOver := fun u (h : Kept w.heap.size w u g p4 M b4 0 (decide (M < T + m))) => over_any h.pk
      have HOver : ∀ u, Kept w.heap.size w u g p4 M b4 0 (decide (M < T + m)) → Calls Try.prog 19 #[.pointer (some ⟨g, 0, none⟩)] u fun e w' => e = .returned (.bool (decide ((M : Int) < (T : Int) + (m : Int)))) ∧ u = w' := fun u h => by
        have := HOver u h
        rwa [hdec] at this
      generalize roomK M bs.length m = k1 at *
      generalize hL0 : bs.length = L0 at *
      clear hL0
      have HK3 := Lib.hid hk3
      have hL4 : b4.length ≤ M := by omega
      generalize hm4 : b4.length = m4 at *
      have HM4 := Lib.hid hm4
      clear hm4 hdec hbl hk3
      have g1 : (k1 : Int) ≤ (m : Int) := by omega
      have g2 : (((m4 : Nat) : Int) == (L0 : Int) + (k1 : Int)) = true := by rw [beq_iff_eq]; omega
      have g3 : (m4 : Int) ≤ (M : Int) := by omega
      have hwr : IntKind.i64.wrap ((T : Int) + (m : Int)) = ((T + m : Nat) : Int) := by rw [IntWalk.i64_in _ (by omega)]; omega
      have hne : (((m4 : Nat) : Int) != (L0 : Int) + (k1 : Int)) = false := by rw [bne, g2]; rfl
      have hT5 : (T : Int) ≤ 50000 := by omega
      have hM5 : (M : Int) ≤ 16384 := by omega
      by_cases hkm : k1 < m
      · have hkmi : (k1 : Int) < (m : Int) := by omega
        have hmM := hk2 hkm
        have hmM2 : ((m4 : Int) == (M : Int)) = true := by rw [beq_iff_eq]; omega
        have hmM3 : ((m4 : Int) != (M : Int)) = false := by rw [bne, hmM2]; rfl
        have hmM4 : ((L0 : Int) + (k1 : Int) == (M : Int)) = true := by rw [beq_iff_eq]; omega
        have hmM5 : ((L0 : Int) + (k1 : Int) != (M : Int)) = false := by rw [bne, hmM4]; rfl
        clear hk2 hmM hkm
        go_wp2_with fail
        refine (HLen _ HX4.out).mono ?_
        rintro e w5 ⟨rfl, rfl⟩
        go_wp2_with fail
        refine (HLen _ HX4.out).mono ?_
        rintro e w5 ⟨rfl, rfl⟩
        go_wp2_with fail
        refine (HOver _ HX4.out).mono ?_
        rintro e w5 ⟨rfl, rfl⟩
        go_wp2_with fail
        refine (HLen _ HX4.out).mono ?_
        rintro e w5 ⟨rfl, rfl⟩
        go_wp2_with fail
        go_roundw
        case rel => exact ⟨k + 1, T + m, p4, b4, by omega, by go_num, by go_num, by omega, by rw [HM4.out]; exact HK3.out, HX4⟩
        case measure => simp [intOf]; omega
      · have hkmi : (m : Int) ≤ (k1 : Int) := by omega
        clear hk2
        go_wp2_with fail
        refine (HLen _ HX4.out).mono ?_
        rintro e w5 ⟨rfl, rfl⟩
        go_wp2_with fail
        refine (HLen _ HX4.out).mono ?_
        rintro e w5 ⟨rfl, rfl⟩
        go_wp2_with fail
        refine (HOver _ HX4.out).mono ?_
        rintro e w5 ⟨rfl, rfl⟩
        go_wp2_with fail
        go_roundw
        case rel => exact ⟨k + 1, T + m, p4, b4, by omega, by go_num, by go_num, by omega, by rw [HM4.out]; exact HK3.out, HX4⟩
        case measure => simp [intOf]; omega
    · obtain rfl : k = ln := by omega
      go_wp2_with fail
      go_ret
      exact ⟨rfl, HR.out.bel⟩

theorem walk (W : World) (most : Int) (_ : -9223372036854775808 ≤ most ∧ most ≤ 9223372036854775807) (A : Option Addr) (ln cap : Nat) (l : List Sb) (_ : ln ≤ cap) (hc : cap ≤ maxLen) (hl : l.length = ln ∧ SrcRows W A l) :
    Calls Try.prog 6 #[.int .i64 most, .slice A ln cap] W fun e w' => e = .returned (.bool true) ∧ Below W.heap.size W w' := by
  unfold maxLen at hc
  by_cases h : 50 < ln
  · exact walk_out W most A ln cap (by omega) h
  · exact walk_few W most A ln cap l hl.1 hl.2 (by omega)

set_option maxRecDepth 100000 in
set_option linter.unusedVariables false in
theorem lifted (os : Os) (started : os.Started) (H : Type) (enc : TypeId × Value → H) :
    ReturnsInHanded {} Try.checked os 6 .any (Rows.peekMostSpec.pre6 enc Try.prog Try.f6 Rows.peekMostRow.domain false) (Rows.peekMostSpec.post enc Try.prog Try.f6 false true false false) := by
  refine returnsInHanded_of_change (C := Try.checked) own started (by kernel_rfl) Try.func6
    (ChangeSpec.witness6 (enc := enc) (C := Try.checked) false ⟨#[], #[.int .i64 0, .slice none 0 0], []⟩ 8 (by kernel_rfl) (by kernel_rfl) (by kernel_rfl) (by kernel_rfl)) ?_
  intro W base args ds gs before hval0 hW hcnd _
  have hval : ∀ (j : Nat) t v, Try.f6.params[j]? = some t → args[j]? = some v → Value.okWide Try.prog W .any base t v := hval0
  have hW' := hW
  obtain ⟨p, q, hA0, hV, rfl, hfz, hnd⟩ := hW
  have hA : DataW.TrodAll enc Try.prog W 0 (fun _ => true) true Try.f6.params.toList args.toList ds p := hA0
  rw [Try.params6] at hA hval
  obtain ⟨v0, vs0, d0, ds0, p0, q0, hargs, rfl, rfl, h0, r0⟩ := trodAll_cons hA
  obtain ⟨v1, vs1, d1, ds1, p1, q1, rfl, rfl, rfl, h1, r1⟩ := trodAll_cons r0
  obtain ⟨rfl, rfl, rfl⟩ := trodAll_nil r1
  obtain rfl : args = #[v0, v1] := by cases args; simp_all
  obtain ⟨rfl, rfl⟩ := trodVars_none hV
  have k0 := h0
  have lt0 : ∀ x ∈ p0, x.block < W.heap.size := by obtain ⟨m, hm⟩ := k0; exact DataW.trod_lt m _ _ _ hm
  obtain ⟨a0, rfl, rfl, rfl, w0⟩ := open_int Try.underlying3 (hval 0 3 v0 rfl rfl) h0
  have b0 := int_of w0
  have k1 := h1
  have lt1 : ∀ x ∈ p1, x.block < W.heap.size := by obtain ⟨m, hm⟩ := k1; exact DataW.trod_lt m _ _ _ hm
  obtain ⟨A1, n1, cap1, xs1, rfl, le1, mx1, src1⟩ := open_rows (hval 1 39 v1 rfl rfl) h1
  clear hA0 hval0
  refine (walk W a0 b0 A1 n1 cap1 xs1 le1 mx1 src1).mono fun e W' ⟨he, bel⟩ => ?_
  subst he
  exact ⟨_, rfl, _, _, _, [], _, [], hW', trodAll_mk1 (shut_bool Try.underlying4 _), (trodAll_cons_mk (Below.trod laidOut (by kernel_rfl) (of_decide_eq_true (by kernel_rfl)) k0 bel lt0) (trodAll_cons_mk (Below.trod laidOut (by kernel_rfl) (of_decide_eq_true (by kernel_rfl)) k1 bel lt1) trodAll_mk0)), rfl, bel.frame _, fun h => by cases h⟩

theorem over : Rows.peekMostRow.holds Try.pinned (OpenSpec.ofChange Rows.peekMostSpec) :=
  OpenClaim.holds_of_wide 6 Try.f6 rfl rfl rfl rfl rfl rfl rfl ⟨rfl, rfl, rfl, rfl, rfl⟩ rfl rfl rfl rfl rfl (by kernel_rfl) Try.func6 (by kernel_rfl)
    (of_decide_eq_true (by kernel_rfl)) (by unfold Func.isWrapper; first | (rw [if_pos (by decide +kernel)]; kernel_rfl) | (rw [if_neg (by decide +kernel)]; exact ⟨rfl, rfl⟩))
    (fun os started H enc _ => lifted os started H enc)

theorem proved : Rows.PeekMostSaid := over
#print axioms proved
end Go.Proofs.Ytnmfgimcclpfbaa.peekMost
