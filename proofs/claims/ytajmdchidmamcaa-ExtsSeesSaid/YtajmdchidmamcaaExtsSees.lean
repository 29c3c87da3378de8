/-
  ExtsSees: what is seen of a hello is what the document's own answer says: any hello. No condition.
-/
import Derived.Test.YtajmdchidmamcaaExSmall
import Derived.Test.YtajmdchidmamcaaErSee
import Derived.Test.YtajmdchidmamcaaMSm
import Derived.Test.YtajmdchidmamcaaHeFew
import Derived.Test.YtajmdchidmamcaaMLi
namespace Go.Proofs.Ytajmdchidmamcaa.extsSees
open Go.ChangeShapes Go.WideShapes Go.ChangeAt Go.RowKit Go.Proofs.Ytajmdchidmamcaa.Wd Go.Proofs.Ytajmdchidmamcaa.Be Go.Proofs.Ytajmdchidmamcaa.He Go.Proofs.Ytajmdchidmamcaa.Ro Go.Proofs.Ytajmdchidmamcaa.Ex Go.Proofs.Ytajmdchidmamcaa.Lift

theorem mem_xsum : ∀ {l : List Xt} {x : Xt}, x ∈ l → x.n ≤ xsum l
  | [], x, h => absurd h List.not_mem_nil
  | y :: l, x, h => by
    have e : xsum (y :: l) = 4 + y.n + xsum l := by simp [xsum]
    rw [e]
    rcases List.mem_cons.1 h with rfl | h
    · omega
    · have := mem_xsum h; omega

set_option maxRecDepth 100000 in
set_option maxHeartbeats 2000000 in
theorem walk (w : World) (H : Hv) (hok : H.Ok w ∧ ∀ x ∈ H.xs, x.c ≤ maxLen) :
    Calls Try.prog 5 #[.agg H.C] w fun e w' => e = .returned (.bool true) ∧ Below w.heap.size w w' := by
  obtain ⟨hH, hcm⟩ := hok
  have hr := hH.rnd
  have HH := Lib.hid hH
  have HCm := Lib.hid hcm
  clear hH hcm
  go_enter Try.func5, Try.ntmps5
  go_wp2_with fail
  have hb0 := Blk.new w 44 H.C
  have HB0 := Lib.hid ((Below.refl w.heap.size w).alloc (Nat.le_refl _) (.cells H.C 44))
  generalize w.alloc (.cells H.C 44) = w0 at *
  refine (small_any w0).mono ?_
  rintro e w1 ⟨rfl, hb⟩
  have hb1 := hb0.below hb hb0.lt
  have HB1 := Lib.hid (HB0.out.trans (hb.mono HB0.out.size))
  clear hb hb0 HB0
  go_wp2_with (refine go_ld 44 hb1 undH rfl infH (Hv.size hr) rfl rfl rfl ?_)
  refine (few_any H w1 (HH.out.below HB1.out)).mono ?_
  rintro e w2 ⟨rfl, hb⟩
  have hb2 := hb1.below hb hb1.lt
  have HB2 := Lib.hid (HB1.out.trans (hb.mono HB1.out.size))
  clear hb hb1 HB1
  obtain ⟨fw, hfw⟩ : ∃ b, fewH H = b := ⟨_, rfl⟩
  rw [hfw]
  cases fw with
  | false =>
    clear hb2
    go_wp2_with fail
    go_ret
    exact ⟨rfl, HB2.out⟩
  | true =>
    have hsm : ∀ x ∈ H.xs, x.n ≤ 100000 := fun x hx => by
      have h1 := (few_is hfw).2
      have h2 := mem_xsum hx
      unfold weigh at h1
      omega
    have HSm := Lib.hid hsm
    clear hsm hfw
    go_wp2_with (refine go_ld 44 hb2 undH rfl infH (Hv.size hr) rfl rfl rfl ?_)
    refine (see_any H w2 (HH.out.below HB2.out)).mono ?_
    rintro e w3 ⟨va, vv, rfl, ha, hv, hb⟩
    have hb3 := hb2.below hb hb2.lt
    have HB3 := Lib.hid (HB2.out.trans (hb.mono HB2.out.size))
    obtain ⟨q, hq⟩ : ∃ q, seeS H.hel.exts = q := ⟨_, rfl⟩
    rw [hq] at ha hv ⊢
    have HQ := Lib.hid hq
    obtain ⟨⟨x1, x2, x3, x4, x5⟩, E⟩ := q
    simp only at ha hv ⊢
    obtain ⟨A1, c1, rfl⟩ := OwnE.form ha.1
    obtain ⟨A2, c2, rfl⟩ := OwnE.form hv.1
    obtain ⟨n1, hn1⟩ : ∃ n, x3.length = n := ⟨_, rfl⟩
    obtain ⟨n2, hn2⟩ : ∃ n, x4.length = n := ⟨_, rfl⟩
    rw [hn1] at ha ⊢
    rw [hn2] at hv ⊢
    unfold snC
    simp only
    have HN1 := Lib.hid hn1
    have HN2 := Lib.hid hn2
    have hw3 := (Below.refl w3.heap.size w3).alloc (Nat.le_refl _) (.cells #[.bool x1, .string (str8 x2), .slice A1 n1 c1, .slice A2 n2 c2, .bool x5] 47)
    have hb3' := hb3.below hw3 hb3.lt
    have HA1 := Lib.hid (RelP.below ha hw3)
    have HV1 := Lib.hid (RelV.below hv hw3)
    have HB3' := Lib.hid (HB3.out.trans (hw3.mono HB3.out.size))
    have HS3 := Lib.hid (Blk.new w3 47 #[.bool x1, .string (str8 x2), .slice A1 n1 c1, .slice A2 n2 c2, .bool x5])
    clear ha hv hb hb2 hb3 HB2 HB3 hq hn1 hn2 hw3
    go_upto_region 6 with fail
    generalize w3.alloc (.cells #[.bool x1, .string (str8 x2), .slice A1 n1 c1, .slice A2 n2 c2, .bool x5] 47) = w4 at *
    generalize w3.heap.size = g3 at *
    go_wp2_with (refine go_ld 44 hb3' undH rfl infH (Hv.size hr) rfl rfl rfl ?_)
    refine (rsee_any H w4 (HH.out.below HB3'.out) HCm.out HSm.out).mono ?_
    rintro e w5 ⟨va, vv, rfl, ha, hv, hb⟩
    rw [HQ.out] at ha hv ⊢
    simp only at ha hv ⊢
    obtain ⟨A3, c3, rfl⟩ := OwnE.form ha.1
    obtain ⟨A4, c4, rfl⟩ := OwnE.form hv.1
    rw [HN1.out] at ha ⊢
    rw [HN2.out] at hv ⊢
    unfold snC
    simp only
    have hw5 := (Below.refl w5.heap.size w5).alloc (Nat.le_refl _) (.cells #[.bool x1, .string (str8 x2), .slice A3 n1 c3, .slice A4 n2 c4, .bool x5] 47)
    have hbw := hb.trans (hw5.mono hb.size)
    have HA2 := Lib.hid (RelP.below HA1.out hbw)
    have HV2 := Lib.hid (RelV.below HV1.out hbw)
    have HA3 := Lib.hid (RelP.below ha hw5)
    have HV3 := Lib.hid (RelV.below hv hw5)
    have hS3 := HS3.out.below hbw HS3.out.lt
    have hS5 := Blk.new w5 47 #[.bool x1, .string (str8 x2), .slice A3 n1 c3, .slice A4 n2 c4, .bool x5]
    have HB5 := Lib.hid (HB3'.out.trans (hbw.mono HB3'.out.size))
    clear ha hv hb hb3' HA1 HV1 HS3 HB3' hw5 hbw
    go_upto_region 7 with fail
    generalize w5.alloc (.cells #[.bool x1, .string (str8 x2), .slice A3 n1 c3, .slice A4 n2 c4, .bool x5] 47) = w6 at *
    generalize w5.heap.size = g5 at *
    have k0 := hS3.cell 0
    have k1 := hS3.cell 1
    have k2 := hS3.cell 2
    have k3 := hS3.cell 3
    have k4 := hS3.cell 4
    have m0 := hS5.cell 0
    have m1 := hS5.cell 1
    have m2 := hS5.cell 2
    have m3 := hS5.cell 3
    have m4 := hS5.cell 4
    clear hS3 hS5
    go_wp2_with fail
    refine (rsame_any ⟨x1, x2, x3, x4, x5⟩ (.slice A1 n1 c1) (.slice A2 n2 c2) (.slice A3 n1 c3) (.slice A4 n2 c4) _ _ _ _ w6 HA2.out HV2.out HA3.out HV3.out).mono ?_
    rintro e w7 ⟨rfl, hb⟩
    have HB7 := Lib.hid (HB5.out.trans (hb.mono HB5.out.size))
    clear hb k0 k1 k2 k3 k4 m0 m1 m2 m3 m4
    go_wp2_with fail
    go_ret
    exact ⟨rfl, HB7.out⟩

set_option maxRecDepth 100000 in
set_option linter.unusedVariables false in
theorem lifted (os : Os) (started : os.Started) (H : Type) (enc : TypeId × Value → H) :
    ReturnsInHanded {} Try.checked os 5 .any (Rows.extsSeesSpec.pre6 enc Try.prog Try.f5 Rows.extsSeesRow.domain false) (Rows.extsSeesSpec.post enc Try.prog Try.f5 false true false false) := by
  refine returnsInHanded_of_change_sized (C := Try.checked) own started (by kernel_rfl) Try.func5
    (ChangeSpec.witness6 (enc := enc) (C := Try.checked) false ⟨#[], #[.agg #[.int .i64 0, .int .u8 0, .int .u8 0, .int .u8 0, .int .u8 0, .int .u8 0, .int .u8 0, .int .u8 0, .int .u8 0, .int .u8 0, .int .u8 0, .int .u8 0, .int .u8 0, .int .u8 0, .int .u8 0, .int .u8 0, .int .u8 0, .int .u8 0, .int .u8 0, .int .u8 0, .int .u8 0, .int .u8 0, .int .u8 0, .int .u8 0, .int .u8 0, .int .u8 0, .int .u8 0, .int .u8 0, .int .u8 0, .int .u8 0, .int .u8 0, .int .u8 0, .int .u8 0, .slice none 0 0, .slice none 0 0, .slice none 0 0, .bool false, .slice none 0 0]], []⟩ 8 (by kernel_rfl) (by kernel_rfl) (by kernel_rfl) (by kernel_rfl)) ?_
  intro W base args ds gs before hval0 hW hcnd hsz0 _
  have hval : ∀ (j : Nat) t v, Try.f5.params[j]? = some t → args[j]? = some v → Value.okWide Try.prog W .any base t v := hval0
  have hW' := hW
  obtain ⟨p, q, hA0, hV, rfl, hfz, hnd⟩ := hW
  have hA : DataW.TrodAll enc Try.prog W 0 (fun _ => true) true Try.f5.params.toList args.toList ds p := hA0
  have hsz : (DataW.weightsEach Try.prog (Try.f5.params.toList ++ Rows.extsSeesSpec.plain.varTypes Try.prog) (ds ++ gs)).all (· ≤ reachBytes) = true := hsz0
  rw [Try.params5] at hA hval hsz
  obtain ⟨v0, vs0, d0, ds0, p0, q0, hargs, rfl, rfl, h0, r0⟩ := trodAll_cons hA
  obtain ⟨rfl, rfl, rfl⟩ := trodAll_nil r0
  obtain rfl : args = #[v0] := by cases args; simp_all
  obtain ⟨rfl, rfl⟩ := trodVars_none hV
  have k0 := h0
  have lt0 : ∀ x ∈ p0, x.block < W.heap.size := by obtain ⟨m, hm⟩ := k0; exact DataW.trod_lt m _ _ _ hm
  obtain ⟨a0, ok0, rfl⟩ := open_hello_c (hval 0 44 v0 rfl rfl) h0 (reach_at hsz (j := 0) (t := 44) rfl rfl)
  clear hA0 hval0 hsz0
  refine (walk W a0 ok0).mono fun e W' ⟨he, bel⟩ => ?_
  subst he
  exact ⟨_, rfl, _, _, _, [], _, [], hW', trodAll_mk1 (shut_bool Try.underlying4 _), (trodAll_cons_mk (Below.trod laidOut (by kernel_rfl) (of_decide_eq_true (by kernel_rfl)) k0 bel lt0) trodAll_mk0), rfl, bel.frame _, fun h => by cases h⟩

theorem over : Rows.extsSeesRow.holds Try.pinned (OpenSpec.ofChange Rows.extsSeesSpec) :=
  OpenClaim.holds_of_wide 5 Try.f5 rfl rfl rfl rfl rfl rfl rfl ⟨rfl, rfl, rfl, rfl, rfl⟩ rfl rfl rfl rfl rfl (by kernel_rfl) Try.func5 (by kernel_rfl)
    (of_decide_eq_true (by kernel_rfl)) (by unfold Func.isWrapper; first | (rw [if_pos (by decide +kernel)]; kernel_rfl) | (rw [if_neg (by decide +kernel)]; exact ⟨rfl, rfl⟩))
    (fun os started H enc _ => lifted os started H enc)

theorem proved : Rows.ExtsSeesSaid := over
#print axioms proved
end Go.Proofs.Ytajmdchidmamcaa.extsSees
