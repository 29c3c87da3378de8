/-
  'What is printed is parsed as it was, and what is parsed is printed as it was' (hagioscopelaw09.HelloBack) holds: whatever the hello and the bytes, the call returns true and leaves what was there as it was. No condition.
-/
import Derived.Test.YtpnidmegeimboaaHeSmall
import Derived.Test.YtpnidmegeimboaaHeLaw
import Derived.Test.YtpnidmegeimboaaRsSame
import Derived.Test.YtpnidmegeimboaaLiftHel
import Derived.Deep.RegionHeld
namespace Go.Proofs.Ytpnidmegeimboaa.helloBack
open Go.ChangeShapes Go.WideShapes Go.ChangeAt Go.RowKit
open Go.ChangeMaps (open_string shut_string)
open Go.Proofs.Ytpnidmegeimboaa.Wd Go.Proofs.Ytpnidmegeimboaa.Be Go.Proofs.Ytpnidmegeimboaa.He Go.Proofs.Ytpnidmegeimboaa.Lift

theorem go_bd0g {ops : Array Oper} {rest : List Oper} {o : Oper} {a : Act} {w : World} {Q : Exit → Act → World → Prop} (ty : TypeId) (C : Array Value) (hB : Try.prog.built ty [] = some C) (hw : Region.wanted o (yielded ops a.tmps) = true) (ho : o.op = .build ty #[])
    (h : wpList Try.prog ops Q rest (a.put o.dst (.agg C)) w) : wpList Try.prog ops Q (o :: rest) a w := by
  have e : Try.prog.built ty ((#[] : Array (Nat × Operand)).map fun (i, x) => (i, a.eval x)).toList = some C := by simpa using hB
  show if Region.wanted o (yielded ops a.tmps) = true then _ else _
  rw [if_pos hw]
  refine .inl (wp_build _ _ ho (by rw [e]; rfl) ?_)
  rw [e]
  exact h
theorem exts_len (l : List (Int × List UInt8)) : l.length ≤ (extsB l).length := by
  induction l with
  | nil => simp
  | cons x l ih =>
    rw [extsB_cons]
    simp only [List.length_append, List.length_cons, two_len]
    omega
theorem short_len {h : Hel} (r : Right h) : h.ses.length ≤ (layS h).length ∧ h.cph.length ≤ (layS h).length ∧ h.met.length ≤ (layS h).length ∧ h.exts.length ≤ (layS h).length := by
  have hx : h.exts.length ≤ (tailB h).length := by
    unfold tailB
    cases hh : h.has with
    | false => rw [r.1.bare hh]; simp
    | true => rw [if_pos rfl, vecB_len]; have := exts_len h.exts; omega
  unfold layS headB
  simp only [List.length_append, two_len, vecB_len, numsB_len]
  omega
theorem lay_max {h : Hel} (r : Right h) (hr : h.rnd.length = 32) : (layS h).length ≤ 200000 := by
  obtain ⟨hw, _, _, _, h1, h2, _, h4⟩ := (right_iff hr).1 r
  have h3 := (wrong_ok.1 hw).2.1
  have hx : (tailB h).length ≤ 65540 := by
    unfold tailB
    split
    · rw [vecB_len]; omega
    · simp
  unfold layS headB
  simp only [List.length_append, two_len, vecB_len, numsB_len, hr]
  omega

set_option maxRecDepth 100000 in
set_option maxHeartbeats 4000000 in
theorem walk_any (w : World) (H : Hv) (hH : H.Ok w) (A : Option Addr) (n cap : Nat) (xs : List UInt8) (hs : Src w A n xs) :
    Calls Try.prog 5 #[.agg H.C, .slice A n cap] w fun e w' => e = .returned (.bool true) ∧ Below w.heap.size w w' := by
  have HH := Lib.hid hH
  have HS := Lib.hid hs
  have hr := hH.rnd
  clear hH hs
  go_enter Try.func5, Try.ntmps5
  go_upto_region 1 with fail
  have HK := Lib.hid (Blk.new w 28 H.C)
  have HB := Lib.hid ((Below.refl w.heap.size w).alloc (Nat.le_refl _) (.cells H.C 28))
  generalize w.alloc (.cells H.C 28) = w1 at *
  obtain ⟨g, hg⟩ : ∃ g, g = w.heap.size := ⟨_, rfl⟩
  rw [← hg]
  rw [← hg] at HK
  clear hg
  go_wp2_with fail
  refine (small_any w1).mono ?_
  rintro e w2 ⟨rfl, hb⟩
  replace HK := Lib.hid (HK.out.below hb HK.out.lt)
  replace HB := Lib.hid (HB.out.trans (hb.mono HB.out.size))
  clear hb w1
  go_wp2_with (refine go_ld (x := .tmp 2) 28 HK.out undH rfl infH (Hv.size hr) rfl rfl rfl ?_)
  refine (few_any H w2 (HH.out.below HB.out)).mono ?_
  rintro e w3 ⟨rfl, hb⟩
  replace HK := Lib.hid (HK.out.below hb HK.out.lt)
  replace HB := Lib.hid (HB.out.trans (hb.mono HB.out.size))
  clear hb w2
  cases hf : fewH H with
  | false =>
    go_wp2_with fail
    go_ret
    exact ⟨rfl, HB.out⟩
  | true =>
    have HSh := Lib.hid (few_short hf)
    clear hf
    by_cases h5 : (n : Int) ≤ 5000
    · go_wp2_with (refine go_ld (x := .tmp 2) 28 HK.out undH rfl infH (Hv.size hr) rfl rfl rfl ?_)
      have HPr := Lib.hid (print_right (h := H.hel) hr)
      refine (print_any H w3 (HH.out.below HB.out) HSh.out).mono ?_
      by_cases hright : Right H.hel
      · obtain ⟨la, hla⟩ : ∃ la, la = (layS H.hel).length := ⟨_, rfl⟩
        have hlb : la ≤ 200000 := by rw [hla]; exact lay_max hright hr
        have HQ := Lib.hid (parse_lay hright)
        intro e w5 hq
        obtain ⟨p5, c5, rfl, ha, -, hb⟩ := print_of (HPr.out.2.1 hright) hla.symm hq
        replace HK := Lib.hid (HK.out.below hb HK.out.lt)
        replace HB := Lib.hid (HB.out.trans (hb.mono HB.out.size))
        have hs5 := ha.src.2
        rw [← hla] at hs5
        have HS5 := Lib.hid hs5
        clear hq ha hb w3 HPr HSh hla hright hs5
        go_wp2_with fail
        refine (parse_any (ad p5) la c5 _ w5 HS5.out (by omega)).mono ?_
        intro e w8 hq
        obtain ⟨H9, rfl, ho, hh, hb⟩ := parse_of HQ.out hq
        have HO9 := Lib.hid ho
        have hr9 := ho.rnd
        have HE9 := Lib.hid hh
        replace HB := Lib.hid (HB.out.trans (hb.mono HB.out.size))
        replace HK := Lib.hid (HK.out.below hb HK.out.lt)
        clear hq ho hh hb w5 HS5 HQ
        go_upto_region 8 with (refine go_st 28 (Blk.new _ _ _) infH rfl (Hv.size hr9) (Hv.one _) rfl rfl rfl rfl ?_)
        rw [← zeroC]
        obtain ⟨la9, hb⟩ := laid_new HO9.out
        replace HB := Lib.hid (HB.out.trans (hb.mono HB.out.size))
        replace HK := Lib.hid (HK.out.below hb HK.out.lt)
        have HK9 := Lib.hid la9
        clear la9 hb HO9
        generalize (w8.alloc (.cells Hv.zero.C 28)).setRow w8.heap.size H9.C = w9 at *
        generalize w8.heap.size = g9 at *
        clear w8
        go_upto_region 10 with (first
          | (refine go_ld (x := .tmp 9) 28 HK9.out.blk undH rfl infH (Hv.size hr9) (by rfl) rfl rfl ?_)
          | (refine go_ld (x := .tmp 2) 28 HK.out undH rfl infH (Hv.size hr) (by rfl) rfl rfl ?_)
          | (go_at_call 12; refine (same_any H9 H w9 HK9.out.own.ok (HH.out.below HB.out)).mono ?_; rintro e w10 ⟨R, rfl, hR, hb⟩; obtain rfl : R = true := hR.2 HE9.out
             have HB10 := Lib.hid (HB.out.trans (hb.mono HB.out.size)); clear hR hb))
        replace HB := HB10
        clear HB10 HK9 HE9
        go_wp2_with fail
        refine (parse_any A n cap xs _ (HS.out.below HB.out) (by omega)).mono ?_
        rintro e w10 ⟨H11, rfl, ho, hh, hb⟩
        have HB10 := Lib.hid (HB.out.trans (hb.mono HB.out.size))
        have HO11 := Lib.hid ho
        have hr11 := ho.rnd
        have HE11 := Lib.hid hh
        clear hb ho hh HB HK
        obtain ⟨z, hz⟩ : ∃ z, z = (parseS xs).2 := ⟨_, rfl⟩
        rw [← hz]
        have HZ := Lib.hid hz
        clear hz
        go_upto_region 11 with (refine go_st 28 (Blk.new _ _ _) infH rfl (Hv.size hr11) (Hv.one _) rfl rfl rfl rfl ?_)
        rw [← zeroC]
        obtain ⟨la11, hb⟩ := laid_new HO11.out
        have HK11 := Lib.hid la11
        have HB11 := Lib.hid (HB10.out.trans (hb.mono HB10.out.size))
        clear la11 hb HB10 HO11
        generalize (w10.alloc (.cells Hv.zero.C 28)).setRow w10.heap.size H11.C = w11 at *
        generalize w10.heap.size = g11 at *
        clear w10
        by_cases hz0 : z = 0
        · subst hz0
          have hrt := lay_parse HZ.out.symm
          rw [← HE11.out] at hrt
          have hsl := short_len hrt.1
          rw [hrt.2, HS.out.1] at hsl
          have HSh := Lib.hid (show Short H11 from ⟨by have h : H11.ses.length ≤ n := hsl.1; omega, by have h : H11.cph.length ≤ n := hsl.2.1; omega, by have h : H11.met.length ≤ n := hsl.2.2.1; omega, by have h := hsl.2.2.2; have e : H11.hel.exts.length = H11.xs.length := List.length_map _; omega⟩)
          have HP := Lib.hid ((print_right (h := H11.hel) hr11).2.1 hrt.1)
          have HLx := Lib.hid hrt.2
          clear hrt hsl HZ HE11
          go_wp2_with (refine go_ld (x := .tmp 11) 28 HK11.out.blk undH rfl infH (Hv.size hr11) rfl rfl rfl ?_)
          refine (print_any H11 w11 HK11.out.own.ok HSh.out).mono ?_
          intro e w13 hq
          obtain ⟨p13, c13, rfl, ha, -, hb⟩ := print_of (HP.out.trans (by rw [HLx.out])) HS.out.1 hq
          have HB13 := Lib.hid (HB11.out.trans (hb.mono HB11.out.size))
          have hs13 := ha.src.2
          rw [HS.out.1] at hs13
          have kq := con8 (c := c13) hs13
          have kb := con8 (c := cap) (HS.out.below HB13.out)
          generalize (⟨xs.toArray⟩ : ByteArray) = sx at *
          clear hq ha hb hs13 HB11 HSh HP HLx HK11
          go_wp2_with fail
          go_ret
          exact ⟨rfl, HB13.out⟩
        · have hz1 : (z != 0) = true := by simpa using hz0
          have HEz := Lib.hid (show H11.hel = Hv.zero.hel from HE11.out.trans (parse_bad (by rw [← HZ.out]; exact hz0)))
          clear hz0 HZ HE11
          go_wp2_with (first
            | (refine go_ld (x := .tmp 11) 28 HK11.out.blk undH rfl infH (Hv.size hr11) (by rfl) rfl rfl ?_)
            | (refine go_bd0g 28 _ builtH (by rfl) rfl ?_)
            | (go_at_call 12; refine (same_any H11 Hv.zero w11 HK11.out.own.ok (Hv.zero_ok _)).mono ?_; rintro e w13 ⟨R, rfl, hR, hb⟩; obtain rfl : R = true := hR.2 HEz.out
               have HB13 := Lib.hid (HB11.out.trans (hb.mono HB11.out.size)); clear hR hb HB11))
          go_ret
          exact ⟨rfl, HB13.out⟩
      · intro e w5 hq
        obtain ⟨p5, c5, rfl, hb⟩ := print_none (HPr.out.2.2 hright) hq
        replace HK := Lib.hid (HK.out.below hb HK.out.lt)
        replace HB := Lib.hid (HB.out.trans (hb.mono HB.out.size))
        clear hq hb w3 HPr HSh hright
        go_upto_region 10 with fail
        go_wp2_with fail
        refine (parse_any A n cap xs _ (HS.out.below HB.out) (by omega)).mono ?_
        rintro e w10 ⟨H11, rfl, ho, hh, hb⟩
        have HB10 := Lib.hid (HB.out.trans (hb.mono HB.out.size))
        have HO11 := Lib.hid ho
        have hr11 := ho.rnd
        have HE11 := Lib.hid hh
        clear hb ho hh HB HK
        obtain ⟨z, hz⟩ : ∃ z, z = (parseS xs).2 := ⟨_, rfl⟩
        rw [← hz]
        have HZ := Lib.hid hz
        clear hz
        go_upto_region 11 with (refine go_st 28 (Blk.new _ _ _) infH rfl (Hv.size hr11) (Hv.one _) rfl rfl rfl rfl ?_)
        rw [← zeroC]
        obtain ⟨la11, hb⟩ := laid_new HO11.out
        have HK11 := Lib.hid la11
        have HB11 := Lib.hid (HB10.out.trans (hb.mono HB10.out.size))
        clear la11 hb HB10 HO11
        generalize (w10.alloc (.cells Hv.zero.C 28)).setRow w10.heap.size H11.C = w11 at *
        generalize w10.heap.size = g11 at *
        clear w10
        by_cases hz0 : z = 0
        · subst hz0
          have hrt := lay_parse HZ.out.symm
          rw [← HE11.out] at hrt
          have hsl := short_len hrt.1
          rw [hrt.2, HS.out.1] at hsl
          have HSh := Lib.hid (show Short H11 from ⟨by have h : H11.ses.length ≤ n := hsl.1; omega, by have h : H11.cph.length ≤ n := hsl.2.1; omega, by have h : H11.met.length ≤ n := hsl.2.2.1; omega, by have h := hsl.2.2.2; have e : H11.hel.exts.length = H11.xs.length := List.length_map _; omega⟩)
          have HP := Lib.hid ((print_right (h := H11.hel) hr11).2.1 hrt.1)
          have HLx := Lib.hid hrt.2
          clear hrt hsl HZ HE11
          go_wp2_with (refine go_ld (x := .tmp 11) 28 HK11.out.blk undH rfl infH (Hv.size hr11) rfl rfl rfl ?_)
          refine (print_any H11 w11 HK11.out.own.ok HSh.out).mono ?_
          intro e w13 hq
          obtain ⟨p13, c13, rfl, ha, -, hb⟩ := print_of (HP.out.trans (by rw [HLx.out])) HS.out.1 hq
          have HB13 := Lib.hid (HB11.out.trans (hb.mono HB11.out.size))
          have hs13 := ha.src.2
          rw [HS.out.1] at hs13
          have kq := con8 (c := c13) hs13
          have kb := con8 (c := cap) (HS.out.below HB13.out)
          generalize (⟨xs.toArray⟩ : ByteArray) = sx at *
          clear hq ha hb hs13 HB11 HSh HP HLx HK11
          go_wp2_with fail
          go_ret
          exact ⟨rfl, HB13.out⟩
        · have hz1 : (z != 0) = true := by simpa using hz0
          have HEz := Lib.hid (show H11.hel = Hv.zero.hel from HE11.out.trans (parse_bad (by rw [← HZ.out]; exact hz0)))
          clear hz0 HZ HE11
          go_wp2_with (first
            | (refine go_ld (x := .tmp 11) 28 HK11.out.blk undH rfl infH (Hv.size hr11) (by rfl) rfl rfl ?_)
            | (refine go_bd0g 28 _ builtH (by rfl) rfl ?_)
            | (go_at_call 12; refine (same_any H11 Hv.zero w11 HK11.out.own.ok (Hv.zero_ok _)).mono ?_; rintro e w13 ⟨R, rfl, hR, hb⟩; obtain rfl : R = true := hR.2 HEz.out
               have HB13 := Lib.hid (HB11.out.trans (hb.mono HB11.out.size)); clear hR hb HB11))
          go_ret
          exact ⟨rfl, HB13.out⟩
    · have h5' : (5000 : Int) < (n : Int) := by omega
      go_wp2_with fail
      go_ret
      exact ⟨rfl, HB.out⟩

theorem walk (W : World) (H : Hv) (ok : H.Ok W) (A : Option Addr) (n cap : Nat) (xs : List UInt8) (_le : n ≤ cap) (_mx : n ≤ 140737488351232) (src : Src W A n xs) :
    Calls Try.prog 5 #[.agg H.C, .slice A n cap] W fun e w' => e = .returned (.bool true) ∧ Below W.heap.size W w' :=
  walk_any W H ok A n cap xs src

set_option maxRecDepth 100000 in
set_option linter.unusedVariables false in
theorem lifted (os : Os) (started : os.Started) (H : Type) (enc : TypeId × Value → H) :
    ReturnsInHanded {} Try.checked os 5 .any (Rows.helloBackSpec.pre6 enc Try.prog Try.f5 Rows.helloBackRow.domain false) (Rows.helloBackSpec.post enc Try.prog Try.f5 false true false false) := by
  refine returnsInHanded_of_change_sized (C := Try.checked) own started (by kernel_rfl) Try.func5
    (ChangeSpec.witness6 (enc := enc) (C := Try.checked) false ⟨#[], #[.agg #[.int .i64 0, .int .u8 0, .int .u8 0, .int .u8 0, .int .u8 0, .int .u8 0, .int .u8 0, .int .u8 0, .int .u8 0, .int .u8 0, .int .u8 0, .int .u8 0, .int .u8 0, .int .u8 0, .int .u8 0, .int .u8 0, .int .u8 0, .int .u8 0, .int .u8 0, .int .u8 0, .int .u8 0, .int .u8 0, .int .u8 0, .int .u8 0, .int .u8 0, .int .u8 0, .int .u8 0, .int .u8 0, .int .u8 0, .int .u8 0, .int .u8 0, .int .u8 0, .int .u8 0, .slice none 0 0, .slice none 0 0, .slice none 0 0, .bool false, .slice none 0 0], .slice none 0 0], []⟩ 8 (by kernel_rfl) (by kernel_rfl) (by kernel_rfl) (by kernel_rfl)) ?_
  intro W base args ds gs before hval0 hW hcnd hsz0 _
  have hval : ∀ (j : Nat) t v, Try.f5.params[j]? = some t → args[j]? = some v → Value.okWide Try.prog W .any base t v := hval0
  have hW' := hW
  obtain ⟨p, q, hA0, hV, rfl, hfz, hnd⟩ := hW
  have hA : DataW.TrodAll enc Try.prog W 0 (fun _ => true) true Try.f5.params.toList args.toList ds p := hA0
  have hsz : (DataW.weightsEach Try.prog (Try.f5.params.toList ++ Rows.helloBackSpec.plain.varTypes Try.prog) (ds ++ gs)).all (· ≤ reachBytes) = true := hsz0
  rw [Try.params5] at hA hval hsz
  obtain ⟨v0, vs0, d0, ds0, p0, q0, hargs, rfl, rfl, h0, r0⟩ := trodAll_cons hA
  obtain ⟨v1, vs1, d1, ds1, p1, q1, rfl, rfl, rfl, h1, r1⟩ := trodAll_cons r0
  obtain ⟨rfl, rfl, rfl⟩ := trodAll_nil r1
  obtain rfl : args = #[v0, v1] := by cases args; simp_all
  obtain ⟨rfl, rfl⟩ := trodVars_none hV
  have k0 := h0
  have lt0 : ∀ x ∈ p0, x.block < W.heap.size := by obtain ⟨m, hm⟩ := k0; exact DataW.trod_lt m _ _ _ hm
  obtain ⟨a0, ok0, rfl⟩ := open_hello (hval 0 28 v0 rfl rfl) h0 (reach_at hsz (j := 0) (t := 28) rfl rfl)
  have k1 := h1
  have lt1 : ∀ x ∈ p1, x.block < W.heap.size := by obtain ⟨m, hm⟩ := k1; exact DataW.trod_lt m _ _ _ hm
  obtain ⟨A1, n1, cap1, xs1, rfl, le1, mx1, src1⟩ := open_bytes_sized (hval 1 22 v1 rfl rfl) h1 (reach_at hsz (j := 1) (t := 22) rfl rfl)
  clear hA0 hval0 hsz0
  refine (walk W a0 ok0 A1 n1 cap1 xs1 le1 mx1 src1).mono fun e W' ⟨he, bel⟩ => ?_
  subst he
  exact ⟨_, rfl, _, _, _, [], _, [], hW', trodAll_mk1 (shut_bool Try.underlying4 _), (trodAll_cons_mk (Below.trod laidOut (by kernel_rfl) (of_decide_eq_true (by kernel_rfl)) k0 bel lt0) (trodAll_cons_mk (Below.trod laidOut (by kernel_rfl) (of_decide_eq_true (by kernel_rfl)) k1 bel lt1) trodAll_mk0)), rfl, bel.frame _, fun h => by cases h⟩

theorem over : Rows.helloBackRow.holds Try.pinned (OpenSpec.ofChange Rows.helloBackSpec) :=
  OpenClaim.holds_of_wide 5 Try.f5 rfl rfl rfl rfl rfl rfl rfl ⟨rfl, rfl, rfl, rfl, rfl⟩ rfl rfl rfl rfl rfl (by kernel_rfl) Try.func5 (by kernel_rfl)
    (of_decide_eq_true (by kernel_rfl)) (by unfold Func.isWrapper; first | (rw [if_pos (by decide +kernel)]; kernel_rfl) | (rw [if_neg (by decide +kernel)]; exact ⟨rfl, rfl⟩))
    (fun os started H enc _ => lifted os started H enc)

theorem proved : Rows.HelloBackSaid := over
#print axioms proved
end Go.Proofs.Ytpnidmegeimboaa.helloBack
