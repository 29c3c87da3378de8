/-
  'Who adds nothing, or asks for none, changes nothing' (hagioscopelaw06.PeekNothing) holds: whatever the limit, the calls and the number, the call returns true and leaves what was there as it was. No condition.
-/
import Derived.Test.YtnmfgimcclpfbaaPkFew
import Derived.Test.YtnmfgimcclpfbaaPkSmall
import Derived.LoopTactic
namespace Go.Proofs.Ytnmfgimcclpfbaa.peekNothing
open Go.ChangeShapes Go.WideShapes Go.ChangeAt Go.RowKit
open Go.ChangeMaps (open_string shut_string)
open Go.Proofs.Ytnmfgimcclpfbaa.Wd Go.Proofs.Ytnmfgimcclpfbaa.Pk Go.Proofs.Ytnmfgimcclpfbaa.Lift

set_option maxRecDepth 100000 in
theorem walk_out (w : World) (most : Int) (A : Option Addr) (ln cap : Nat) (l : List Cl) (n : Int) (hn : l.length = ln) (hc : ln ≤ 9223372036854775807) (hl : SrcL w A l) (hf : fewB l = false ∨ 0 < n) :
    Calls Try.prog 7 #[.int .i64 most, .slice A ln cap, .int .i64 n] w fun e w' => e = .returned (.bool true) ∧ Below w.heap.size w w' := by
  have hf2 : fewB l = false ∨ (fewB l = true ∧ 0 < n) := by
    cases h : fewB l
    · exact .inl rfl
    · rw [h] at hf; simpa using hf
  clear hf
  rcases hf2 with hf | ⟨hf, hn0⟩
  all_goals
    have HF := Lib.hid hf
    clear hf
    go_enter Try.func7, Try.ntmps7
    go_wp2_with fail
    refine (small_any w).mono ?_
    rintro e w1 ⟨rfl, hb1⟩
    go_wp2_with fail
    refine (few_any w1 A ln cap l hn hc (hl.below hb1)).mono ?_
    rintro e w2 ⟨rfl, rfl⟩
    rw [HF.out]
    go_wp2_with fail
    refine (new_kept most w w1 hb1 hb1.size).mono ?_
    rintro e w2 ⟨g, rfl, hr, -⟩
    have HL := Lib.hid hr.bel
    clear hr
    go_wp2_with fail
    go_ret
    exact ⟨rfl, HL.out⟩

set_option maxRecDepth 100000 in
set_option maxHeartbeats 1000000 in
theorem walk_few (w : World) (most : Int) (A : Option Addr) (ln cap : Nat) (l : List Cl) (n : Int) (hn : l.length = ln) (hc : ln ≤ 9223372036854775807) (hl : SrcL w A l) (hf : fewB l = true) (hn0 : n ≤ 0) :
    Calls Try.prog 7 #[.int .i64 most, .slice A ln cap, .int .i64 n] w fun e w' => e = .returned (.bool true) ∧ Below w.heap.size w w' := by
  have HF := Lib.hid hf
  have HL := Lib.hid hl
  have HN := Lib.hid hn
  have hM := mostR_le most
  have HC0 := Lib.hid (show ∀ k, clampK n k = 0 from fun k => by
    unfold clampK withI
    split
    · rfl
    · split <;> omega)
  clear hf hl hn
  go_enter Try.func7, Try.ntmps7
  go_wp2_with fail
  refine (small_any w).mono ?_
  rintro e w1 ⟨rfl, hb1⟩
  go_wp2_with fail
  refine (few_any w1 A ln cap l HN.out hc (HL.out.below hb1)).mono ?_
  rintro e w2 ⟨rfl, rfl⟩
  rw [HF.out]
  go_wp2_with fail
  refine (new_kept most w w1 hb1 hb1.size).mono ?_
  rintro e w2 ⟨g, rfl, hr, -⟩
  have HR := Lib.hid hr
  clear hr hb1
  generalize mostR most = M at *
  go_wp2_with fail
  go_loopw [10] (fun i wr => ∃ (k : Nat) (p : Option Nat) (bs : List UInt8) (cur : Nat) (ov : Bool), k ≤ ln ∧ i = .int .i64 (k : Int) ∧ Hid (Kept w.heap.size w wr g p M bs cur ov)) (fun i _ => ln - (intOf i).toNat)
  case atStart => exact ⟨0, none, [], 0, false, Nat.zero_le _, rfl, HR⟩
  case round =>
    clear HR
    obtain ⟨k, p, bs, cur, ov, hk, rfl, HR⟩ := hrel
    by_cases hlt : k < ln
    · have hki : (k : Int) < (ln : Int) := by omega
      obtain ⟨x, ag, ao, -, hok, rfl, hag, hc0, hc1, hc2⟩ := HL.out.get (by rw [HN.out]; exact hlt) HR.out.bel
      have HOK := Lib.hid hok
      clear hok
      rcases Bool.eq_false_or_eq_true (x.which.tmod 3 == 0) with hw | hw
      · go_wp2_with fail
        refine (add_kept HR.out hM x.A x.n x.c x.b (HOK.out.src.below HR.out.bel) HOK.out.nc).mono ?_
        rintro e w3 ⟨rfl, p3, hr3, -, -⟩
        have HR3 := Lib.hid hr3
        clear hr3 HR hc0 hc1 hc2
        go_wp2_with fail
        go_roundw
        case rel => exact ⟨k + 1, _, _, _, _, by omega, by go_num, HR3⟩
        case measure => simp [intOf]; omega
      · go_wp2_with fail
        refine (next_kept HR.out hM x.q).mono ?_
        rintro e w3 ⟨v3, rfl, -, hr3, -⟩
        have HR3 := Lib.hid hr3
        clear hr3 HR hc0 hc1 hc2
        go_wp2_with fail
        go_roundw
        case rel => exact ⟨k + 1, _, _, _, _, by omega, by go_num, HR3⟩
        case measure => simp [intOf]; omega
    · obtain rfl : k = ln := by omega
      have hle := HR.out.le
      obtain ⟨s, hs⟩ : ∃ s : ByteArray, (⟨bs.toArray⟩ : ByteArray) = s := ⟨_, rfl⟩
      have HS := Lib.hid hs
      clear hs
      go_wp2_with fail
      refine (bytes_kept HR.out hM).mono ?_
      rintro e w3 ⟨v3, rfl, ho3, hr3, -⟩
      obtain ⟨A3, c3, rfl, -, hs3, -⟩ := ho3.cut_
      have k3 := con8 (c := c3) hs3
      rw [HS.out] at k3
      have HR3 := Lib.hid hr3
      have HLn := Lib.hid (rfl : bs.length = bs.length)
      clear ho3 hs3 hr3 HR
      go_wp2_with fail
      refine (left_any HR3.out.pk hM).mono ?_
      rintro e w4 ⟨rfl, q4, rfl⟩
      have HR4 := Lib.hid (HR3.out.drewN q4)
      clear HR3 k3
      generalize w3.drewN q4 = w4 at *
      go_wp2_with fail
      refine (over_any HR4.out.pk).mono ?_
      rintro e w5 ⟨rfl, rfl⟩
      go_wp2_with fail
      refine (add_kept HR4.out hM none 0 0 [] (Src.nil _) (Nat.le_refl _)).mono ?_
      rintro e w5 ⟨rfl, p5, hr5, -, -⟩
      have e0 : roomK M bs.length 0 = 0 := by unfold roomK; omega
      rw [e0, List.take_nil, List.append_nil, show decide (0 < 0) = false from rfl, Bool.or_false] at hr5
      rw [e0]
      have HR5 := Lib.hid hr5
      clear hr5 HR4
      go_wp2_with fail
      refine (next_kept HR5.out hM n).mono ?_
      rintro e w6 ⟨v6, rfl, ho6, hr6, -⟩
      rw [HC0.out, List.take_zero] at ho6
      rw [HC0.out, Nat.add_zero] at hr6
      obtain ⟨A6, c6, rfl, -, -, -⟩ := ho6.cut_
      have HR6 := Lib.hid hr6
      rw [show ([] : List UInt8).length = 0 from rfl]
      clear ho6 hr6 HR5
      go_wp2_with fail
      refine (bytes_kept HR6.out hM).mono ?_
      rintro e w7 ⟨v7, rfl, ho7, hr7, -⟩
      obtain ⟨A7, c7, rfl, -, hs7, -⟩ := ho7.cut_
      have k7 := con8 (c := c7) hs7
      rw [HS.out] at k7
      have HR7 := Lib.hid hr7
      clear ho7 hs7 hr7 HR6
      go_wp2_with fail
      refine (left_any HR7.out.pk hM).mono ?_
      rintro e w8 ⟨rfl, q8, rfl⟩
      have HR8 := Lib.hid (HR7.out.drewN q8)
      clear HR7 k7
      generalize w7.drewN q8 = w8 at *
      go_wp2_with fail
      refine (over_any HR8.out.pk).mono ?_
      rintro e w9 ⟨rfl, rfl⟩
      go_wp2_with fail
      go_ret
      exact ⟨by simp, HR8.out.bel⟩

theorem walk (W : World) (most : Int) (_ : -9223372036854775808 ≤ most ∧ most ≤ 9223372036854775807) (A : Option Addr) (ln cap : Nat) (l : List Cl) (hle : ln ≤ cap) (hc : cap ≤ maxLen) (hn : l.length = ln) (hl : SrcL W A l)
    (n : Int) (_ : -9223372036854775808 ≤ n ∧ n ≤ 9223372036854775807) :
    Calls Try.prog 7 #[.int .i64 most, .slice A ln cap, .int .i64 n] W fun e w' => e = .returned (.bool true) ∧ Below W.heap.size W w' := by
  unfold maxLen at hc
  by_cases h : fewB l = false ∨ 0 < n
  · exact walk_out W most A ln cap l n hn (by omega) hl h
  · have h1 : fewB l = true := by
      cases hf : fewB l
      · exact absurd (.inl hf) h
      · rfl
    exact walk_few W most A ln cap l n hn (by omega) hl h1 (by omega)

set_option maxRecDepth 100000 in
set_option linter.unusedVariables false in
theorem lifted (os : Os) (started : os.Started) (H : Type) (enc : TypeId × Value → H) :
    ReturnsInHanded {} Try.checked os 7 .any (Rows.peekNothingSpec.pre6 enc Try.prog Try.f7 Rows.peekNothingRow.domain false) (Rows.peekNothingSpec.post enc Try.prog Try.f7 false true false false) := by
  refine returnsInHanded_of_change_sized (C := Try.checked) own started (by kernel_rfl) Try.func7
    (ChangeSpec.witness6 (enc := enc) (C := Try.checked) false ⟨#[], #[.int .i64 0, .slice none 0 0, .int .i64 0], []⟩ 8 (by kernel_rfl) (by kernel_rfl) (by kernel_rfl) (by kernel_rfl)) ?_
  intro W base args ds gs before hval0 hW hcnd hsz0 _
  have hval : ∀ (j : Nat) t v, Try.f7.params[j]? = some t → args[j]? = some v → Value.okWide Try.prog W .any base t v := hval0
  have hW' := hW
  obtain ⟨p, q, hA0, hV, rfl, hfz, hnd⟩ := hW
  have hA : DataW.TrodAll enc Try.prog W 0 (fun _ => true) true Try.f7.params.toList args.toList ds p := hA0
  have hsz : (DataW.weightsEach Try.prog (Try.f7.params.toList ++ Rows.peekNothingSpec.plain.varTypes Try.prog) (ds ++ gs)).all (· ≤ reachBytes) = true := hsz0
  rw [Try.params7] at hA hval hsz
  obtain ⟨v0, vs0, d0, ds0, p0, q0, hargs, rfl, rfl, h0, r0⟩ := trodAll_cons hA
  obtain ⟨v1, vs1, d1, ds1, p1, q1, rfl, rfl, rfl, h1, r1⟩ := trodAll_cons r0
  obtain ⟨v2, vs2, d2, ds2, p2, q2, rfl, rfl, rfl, h2, r2⟩ := trodAll_cons r1
  obtain ⟨rfl, rfl, rfl⟩ := trodAll_nil r2
  obtain rfl : args = #[v0, v1, v2] := by cases args; simp_all
  obtain ⟨rfl, rfl⟩ := trodVars_none hV
  have k0 := h0
  have lt0 : ∀ x ∈ p0, x.block < W.heap.size := by obtain ⟨m, hm⟩ := k0; exact DataW.trod_lt m _ _ _ hm
  obtain ⟨a0, rfl, rfl, rfl, w0⟩ := open_int Try.underlying3 (hval 0 3 v0 rfl rfl) h0
  have b0 := int_of w0
  have k1 := h1
  have lt1 : ∀ x ∈ p1, x.block < W.heap.size := by obtain ⟨m, hm⟩ := k1; exact DataW.trod_lt m _ _ _ hm
  obtain ⟨A1, n1, cap1, xs1, rfl, le1, mx1, ln1, src1⟩ := open_calls (hval 1 22 v1 rfl rfl) h1 (reach_at hsz (j := 1) (t := 22) rfl rfl)
  have k2 := h2
  have lt2 : ∀ x ∈ p2, x.block < W.heap.size := by obtain ⟨m, hm⟩ := k2; exact DataW.trod_lt m _ _ _ hm
  obtain ⟨a2, rfl, rfl, rfl, w2⟩ := open_int Try.underlying3 (hval 2 3 v2 rfl rfl) h2
  have b2 := int_of w2
  clear hA0 hval0 hsz0
  refine (walk W a0 b0 A1 n1 cap1 xs1 le1 mx1 ln1 src1 a2 b2).mono fun e W' ⟨he, bel⟩ => ?_
  subst he
  exact ⟨_, rfl, _, _, _, [], _, [], hW', trodAll_mk1 (shut_bool Try.underlying4 _), (trodAll_cons_mk (Below.trod laidOut (by kernel_rfl) (of_decide_eq_true (by kernel_rfl)) k0 bel lt0) (trodAll_cons_mk (Below.trod laidOut (by kernel_rfl) (of_decide_eq_true (by kernel_rfl)) k1 bel lt1) (trodAll_cons_mk (Below.trod laidOut (by kernel_rfl) (of_decide_eq_true (by kernel_rfl)) k2 bel lt2) trodAll_mk0))), rfl, bel.frame _, fun h => by cases h⟩

theorem over : Rows.peekNothingRow.holds Try.pinned (OpenSpec.ofChange Rows.peekNothingSpec) :=
  OpenClaim.holds_of_wide 7 Try.f7 rfl rfl rfl rfl rfl rfl rfl ⟨rfl, rfl, rfl, rfl, rfl⟩ rfl rfl rfl rfl rfl (by kernel_rfl) Try.func7 (by kernel_rfl)
    (of_decide_eq_true (by kernel_rfl)) (by unfold Func.isWrapper; first | (rw [if_pos (by decide +kernel)]; kernel_rfl) | (rw [if_neg (by decide +kernel)]; exact ⟨rfl, rfl⟩))
    (fun os started H enc _ => lifted os started H enc)

theorem proved : Rows.PeekNothingSaid := over
#print axioms proved
end Go.Proofs.Ytnmfgimcclpfbaa.peekNothing
