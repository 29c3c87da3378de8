/-
  FieldParses: of any line of 5000 bytes at most, package field's Parse answers as the document's; else the small case comes out right. Conditions: none beyond the statement's own.
-/
import Derived.Test.YtkbankjnfedkdaaFdSmall
import Derived.Test.YtkbankjnfedkdaaLiftFd
set_option maxRecDepth 100000
namespace Go.Proofs.Ytkbankjnfedkdaa.fieldParses
open Go.ChangeShapes Go.WideShapes Go.ChangeAt Go.RowKit Go.Proofs.Ytkbankjnfedkdaa.Wd Go.Proofs.Ytkbankjnfedkdaa.Asc Go.Proofs.Ytkbankjnfedkdaa.Tx Go.Proofs.Ytkbankjnfedkdaa.St Go.Proofs.Ytkbankjnfedkdaa.Fd Go.Proofs.Ytkbankjnfedkdaa.Lift

open Go.ChangeMaps (open_string)
set_option maxHeartbeats 8000000 in
theorem walk (W : World) (s : ByteArray) (hs : s.size ≤ maxLen) (hE : Env W.heap.size W) :
    Calls Try.prog 3 #[.string s] W fun e w' => e = .returned (.bool true) ∧ Below W.heap.size W w' := by
  unfold maxLen at hs
  obtain ⟨q, hq⟩ : ∃ q, parseS (bs s) = q := ⟨_, rfl⟩
  have HE := Lib.hid hE
  have HS := Lib.hid (fun w hE => small_any (N := W.heap.size) w hE)
  clear hE
  go_enter Try.func3, Try.ntmps3
  go_wp2_with fail
  refine (HS.out W HE.out).mono ?_
  rintro e w1 ⟨rfl, hb⟩
  have HL1 := Lib.hid hb
  clear hb HS
  by_cases h1 : 5000 < s.size
  · have i1 : (5000 : Int) < (s.size : Int) := by omega
    go_wp2_with fail
    go_ret
    exact ⟨rfl, HL1.out⟩
  · have i1 : ¬ (5000 : Int) < (s.size : Int) := by omega
    have P1 := Lib.hid (fun w hE => parse_any (N := W.heap.size) (bs s) w hE (by rw [bs_length]; omega))
    have P2 := Lib.hid (fun w => rparse_any (bs s) w (by rw [bs_length]; omega))
    rw [str_bs, hq] at P1 P2
    obtain ⟨f, k⟩ := q
    have ek : (k == k) = true := by simp
    clear hq h1
    go_wp2_with fail
    refine (P1.out w1 (HE.out.below HL1.out)).mono ?_
    rintro e w2 ⟨rfl, hb⟩
    have HL2 := Lib.hid (HL1.out.trans (hb.mono HL1.out.size))
    clear hb P1 HL1
    go_upto_region 5 with (refine go_st 24 (Blk.new _ _ _) infF rfl rfl (fdC_one _) rfl rfl rfl rfl ?_)
    obtain ⟨hk, hb⟩ := st_new w2 f
    have HL3 := Lib.hid (HL2.out.trans (hb.mono HL2.out.size))
    have HK3 := Lib.hid hk
    clear hk hb HL2
    generalize (w2.alloc (.cells #[.string ⟨#[]⟩, .string ⟨#[]⟩] 24)).setRow w2.heap.size (fdC f) = w3 at *
    generalize w2.heap.size = g3 at *
    go_wp2_with fail
    refine (P2.out w3).mono ?_
    rintro e w4 ⟨rfl, hb⟩
    have HL4 := Lib.hid (HL3.out.trans (hb.mono HL3.out.size))
    have HK4 := Lib.hid (HK3.out.below hb HK3.out.lt)
    clear hb P2 HL3 HK3
    go_upto_region 6 with (refine go_st 24 (Blk.new _ _ _) infF rfl rfl (fdC_one _) rfl rfl rfl rfl ?_)
    obtain ⟨hk, hb⟩ := st_new w4 f
    have HL5 := Lib.hid (HL4.out.trans (hb.mono HL4.out.size))
    have k5 := HK4.out.below hb HK4.out.lt
    have n5 := hk
    clear hk hb HL4 HK4
    generalize (w4.alloc (.cells #[.string ⟨#[]⟩, .string ⟨#[]⟩] 24)).setRow w4.heap.size (fdC f) = w5 at *
    generalize w4.heap.size = g5 at *
    have hz : (fdC f).size = 2 := rfl
    go_wp2_with (first | (refine go_ldg (x := .tmp 4) 24 k5 undF rfl infF hz (by rfl) rfl rfl ?_) | (refine go_ldg (x := .tmp 6) 24 n5 undF rfl infF hz (by rfl) rfl rfl ?_; refine Hid.out ?_))
    refine Lib.hid ?_
    refine go_eqlF (x := .tmp 25) (y := .tmp 26) (t := 24) f f true (by simp) rfl (by rfl) rfl rfl ?_
    go_wp2_with fail
    go_ret
    exact ⟨rfl, HL5.out⟩

set_option maxRecDepth 100000 in
set_option linter.unusedVariables false in
theorem lifted (os : Os) (started : os.Started) (H : Type) (enc : TypeId × Value → H) :
    ReturnsInHanded {} Try.checked os 3 .any (Rows.fieldParsesSpec.pre6 enc Try.prog Try.f3 Rows.fieldParsesRow.domain false) (Rows.fieldParsesSpec.post enc Try.prog Try.f3 false true false false) := by
  refine returnsInHanded_of_change_shaped (C := Try.checked) own started (by kernel_rfl) Try.func3
    (ChangeSpec.witness6 (enc := enc) (C := Try.checked) false ⟨#[], #[.string .empty], []⟩ 8 (by kernel_rfl) (by kernel_rfl) (by kernel_rfl) (by kernel_rfl)) ?_
  intro W base args ds gs before hval0 hW hcnd hsz0 hshp _
  have hE := env_of hshp
  have hval : ∀ (j : Nat) t v, Try.f3.params[j]? = some t → args[j]? = some v → Value.okWide Try.prog W .any base t v := hval0
  have hW' := hW
  obtain ⟨p, q, hA0, hV, rfl, hfz, hnd⟩ := hW
  have hA : DataW.TrodAll enc Try.prog W 0 (fun _ => true) true Try.f3.params.toList args.toList ds p := hA0
  have hsz : (DataW.weightsEach Try.prog (Try.f3.params.toList ++ Rows.fieldParsesSpec.plain.varTypes Try.prog) (ds ++ gs)).all (· ≤ reachBytes) = true := hsz0
  rw [Try.params3] at hA hval hsz
  obtain ⟨v0, vs0, d0, ds0, p0, q0, hargs, rfl, rfl, h0, r0⟩ := trodAll_cons hA
  obtain ⟨rfl, rfl, rfl⟩ := trodAll_nil r0
  obtain rfl : args = #[v0] := by cases args; simp_all
  obtain ⟨rfl, rfl⟩ := trodVars_none hV
  have k0 := h0
  have lt0 : ∀ x ∈ p0, x.block < W.heap.size := by obtain ⟨m, hm⟩ := k0; exact DataW.trod_lt m _ _ _ hm
  obtain ⟨s0, rfl, rfl, rfl, hs0⟩ := open_string Try.underlying9 (hval 0 9 v0 rfl rfl) h0
  clear hA0 hval0 hsz0
  refine (walk W s0 hs0 hE).mono fun e W' ⟨he, bel⟩ => ?_
  subst he
  exact ⟨_, rfl, _, _, _, [], _, [], hW', trodAll_mk1 (shut_bool Try.underlying4 _), (trodAll_cons_mk (Below.trod laidOut (by kernel_rfl) (of_decide_eq_true (by kernel_rfl)) k0 bel lt0) trodAll_mk0), rfl, bel.frame _, fun h => by cases h⟩

theorem over : Rows.fieldParsesRow.holds Try.pinned (OpenSpec.ofChange Rows.fieldParsesSpec) :=
  OpenClaim.holds_of_wide 3 Try.f3 rfl rfl rfl rfl rfl rfl rfl ⟨rfl, rfl, rfl, rfl, rfl⟩ rfl rfl rfl rfl rfl (by kernel_rfl) Try.func3 (by kernel_rfl)
    (of_decide_eq_true (by kernel_rfl)) (by unfold Func.isWrapper; first | (rw [if_pos (by decide +kernel)]; kernel_rfl) | (rw [if_neg (by decide +kernel)]; exact ⟨rfl, rfl⟩))
    (fun os started H enc _ => lifted os started H enc)

theorem proved : Rows.FieldParsesSaid := over
#print axioms proved
end Go.Proofs.Ytkbankjnfedkdaa.fieldParses
