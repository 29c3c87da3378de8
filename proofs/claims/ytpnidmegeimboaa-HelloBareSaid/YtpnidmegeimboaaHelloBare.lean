/-
  'A hello without a row of extensions, and one with an empty one, are told apart, by two bytes' (hagioscopelaw09.HelloBare) holds: whatever the hello, the call returns true and leaves what was there as it was. No condition.
-/
import Derived.Test.YtpnidmegeimboaaHeSmall
import Derived.Test.YtpnidmegeimboaaHeLaw
import Derived.Test.YtpnidmegeimboaaHeFew
import Derived.Test.YtpnidmegeimboaaLiftHel
import Derived.Deep.RegionHeld
import Derived.BigQuiet
namespace Go.Proofs.Ytpnidmegeimboaa.helloBare
open Go.ChangeShapes Go.WideShapes Go.ChangeAt Go.RowKit
open Go.ChangeMaps (open_string shut_string)
open Go.Proofs.Ytpnidmegeimboaa.Wd Go.Proofs.Ytpnidmegeimboaa.Be Go.Proofs.Ytpnidmegeimboaa.He Go.Proofs.Ytpnidmegeimboaa.Lift

theorem ok_has {w : World} {H : Hv} (h : H.Ok w) (b : Bool) : ({ H with has := b } : Hv).Ok w :=
  ⟨h.ver, h.rnd, h.s1, h.ses, h.c1, h.c2, h.cph, h.m1, h.met, h.x1, h.xs⟩
theorem blk_has {w : World} {g : Nat} {t : TypeId} {H : Hv} (h : Blk w g t H.C) (hr : H.rnd.length = 32) (b : Bool) : Blk (w.setCell ⟨g, 36, none⟩ (.bool b)) g t ({ H with has := b } : Hv).C := by
  have := h.set_ 36 (.bool b)
  rw [C_set, show (36 : Nat) = 33 + 3 from rfl, L_set hr] at this
  exact this
theorem lay_few {h : Hel} (r : Right h) (hr : h.rnd.length = 32) (hh : h.has = false) : (layS h).length ≤ 70000 := by
  obtain ⟨hw, _, _, _, h1, h2, _, _⟩ := (right_iff hr).1 r
  have h3 := (wrong_ok.1 hw).2.1
  unfold layS tailB headB
  rw [if_neg (by rw [hh]; simp), List.append_nil]
  simp only [List.length_append, two_len, vecB_len, numsB_len, hr]
  omega

set_option maxRecDepth 100000 in
set_option maxHeartbeats 4000000 in
theorem walk_any (w : World) (H : Hv) (hH : H.Ok w) :
    Calls Try.prog 8 #[.agg H.C] w fun e w' => e = .returned (.bool true) ∧ Below w.heap.size w w' := by
  have HH := Lib.hid hH
  have hr := hH.rnd
  clear hH
  go_enter Try.func8, Try.ntmps8
  go_upto_region 1 with fail
  have HK := Lib.hid (Blk.new w 28 H.C)
  have HB := Lib.hid ((Below.refl w.heap.size w).alloc (Nat.le_refl _) (.cells H.C 28))
  generalize w.alloc (.cells H.C 28) = w1 at *
  obtain ⟨g, hg⟩ : ∃ g, g = w.heap.size := ⟨_, rfl⟩
  rw [← hg]
  rw [← hg] at HK
  have hge : w.heap.size ≤ g := by omega
  clear hg
  go_wp2_with fail
  refine (small_any w1).mono ?_
  rintro e w2 ⟨rfl, hb⟩
  replace HK := Lib.hid (HK.out.below hb HK.out.lt)
  replace HB := Lib.hid (HB.out.trans (hb.mono HB.out.size))
  clear hb w1
  go_wp2_with (refine go_ld 28 HK.out undH rfl infH (Hv.size hr) rfl rfl rfl ?_)
  refine (few_any H w2 (HH.out.below HB.out)).mono ?_
  rintro e w3 ⟨rfl, hb⟩
  replace HK := Lib.hid (HK.out.below hb HK.out.lt)
  replace HB := Lib.hid (HB.out.trans (hb.mono HB.out.size))
  clear hb w2
  cases hf : fewH H with
  | false =>
    go_wp2_with fail
    go_ret
    exact ⟨rfl, HB.out⟩
  | true =>
    have HSh := Lib.hid (few_short hf)
    have hcx := cell_xs HK.out hr
    have hx1 := HH.out.x1
    clear hf
    by_cases hx0 : H.xs.length = 0
    · rw [hx0] at hcx
      have hc := cell_has HK.out hr
      have hfz := HK.out.frozen 36
      clear hx1
      go_upto_region 6 with fail
      clear hcx hc hfz
      -- without extensions
      have hbut : But [g] w3 (w3.setCell ⟨g, 36, none⟩ (.bool false)) := (But.refl _ _).set_ (p := ⟨g, 36, none⟩) (.inl (by simp)) _
      replace HK := Lib.hid (blk_has HK.out hr false)
      replace HB := Lib.hid (HB.out.trans (hbut.below (by simp; omega) HB.out.size))
      clear hbut
      generalize w3.setCell ⟨g, 36, none⟩ (.bool false) = w4 at *
      clear w3
      have HX0 := Lib.hid (show H.hel.exts = [] by show H.xs.map ext = []; rw [List.length_eq_zero_iff.1 hx0]; rfl)
      have HOF := Lib.hid (ok_has HH.out false)
      have HOT := Lib.hid (ok_has HH.out true)
      have HSF := Lib.hid (show Short ({ H with has := false } : Hv) from ⟨HSh.out.ses, HSh.out.cph, HSh.out.met, HSh.out.xs⟩)
      have HST := Lib.hid (show Short ({ H with has := true } : Hv) from ⟨HSh.out.ses, HSh.out.cph, HSh.out.met, HSh.out.xs⟩)
      have HPF := Lib.hid (print_right (h := ({ H with has := false } : Hv).hel) hr)
      have HPT := Lib.hid (print_right (h := ({ H with has := true } : Hv).hel) hr)
      have HRi := Lib.hid (bare_right (h := H.hel) hr HX0.out)
      clear HSh HH
      go_wp2_with (refine go_ld 28 HK.out undH rfl infH (Hv.size (H := { H with has := false }) hr) rfl rfl rfl ?_)
      refine (print_any ({ H with has := false } : Hv) w4 (HOF.out.below HB.out) HSF.out).mono ?_
      by_cases hright : Right ({ H with has := false } : Hv).hel
      · obtain ⟨la, hla⟩ : ∃ la, la = (layS ({ H with has := false } : Hv).hel).length := ⟨_, rfl⟩
        have hlb : la ≤ 70000 := by rw [hla]; exact lay_few hright hr rfl
        have HL := Lib.hid (bare_lay (h := H.hel) HX0.out)
        have hl2 : (layS ({ H with has := true } : Hv).hel).length = la + 2 := by
          rw [hla]
          show (layS { H.hel with has := true }).length = _
          rw [HL.out, List.length_append]
          rfl
        have htk : (layS ({ H with has := true } : Hv).hel).take la = layS ({ H with has := false } : Hv).hel := by
          show (layS { H.hel with has := true }).take la = _
          rw [HL.out, hla]
          exact List.take_left
        have hright2 : Right ({ H with has := true } : Hv).hel := HRi.out.1 hright
        have HQF := Lib.hid (parse_lay hright)
        have HQT := Lib.hid (parse_lay hright2)
        have HLa := Lib.hid hla
        have HL2 := Lib.hid hl2
        have HTk := Lib.hid htk
        intro e w5 hq
        obtain ⟨p5, c5, rfl, ha, hp, hb⟩ := print_of (HPF.out.2.1 hright) hla.symm hq
        have HP5 := Lib.hid (show ∀ q, p5 = some q → q ≠ g from fun q e => by have := hp q e; have := HK.out.lt; omega)
        replace HK := Lib.hid (HK.out.below hb HK.out.lt)
        replace HB := Lib.hid (HB.out.trans (hb.mono HB.out.size))
        have HA5 := Lib.hid ha
        clear hq ha hp hb w4 hla hl2 htk
        have hc := cell_has HK.out hr
        have hfz := HK.out.frozen 36
        go_upto_region 8 with fail
        clear hc hfz
        have hbut : But [g] w5 (w5.setCell ⟨g, 36, none⟩ (.bool true)) := (But.refl _ _).set_ (p := ⟨g, 36, none⟩) (.inl (by simp)) _
        replace HK := Lib.hid (blk_has HK.out hr true)
        replace HB := Lib.hid (HB.out.trans (hbut.below (by simp; omega) HB.out.size))
        replace HA5 := Lib.hid (HA5.out.but hbut (fun b e hm => HP5.out b e (List.mem_singleton.1 hm)))
        clear hbut HP5
        generalize w5.setCell ⟨g, 36, none⟩ (.bool true) = w6 at *
        clear w5
        go_wp2_with (refine go_ld 28 HK.out undH rfl infH (Hv.size (H := { H with has := true }) hr) rfl rfl rfl ?_)
        refine (print_any ({ H with has := true } : Hv) w6 (HOT.out.below HB.out) HST.out).mono ?_
        intro e w7 hq
        obtain ⟨p7, c7, rfl, ha, hp, hb⟩ := print_of (HPT.out.2.1 hright2) HL2.out hq
        replace HB := Lib.hid (HB.out.trans (hb.mono HB.out.size))
        have hs5 := (HA5.out.but (But.of_below hb []) (by simp)).src.2
        rw [← HLa.out] at hs5
        have hs7 := ha.src
        rw [HL2.out] at hs7
        have HS5 := Lib.hid hs5
        have HS7 := Lib.hid hs7.2
        have hc7 : (la : Int) ≤ (c7 : Int) := by have := hs7.1; omega
        have hc7' : la ≤ c7 := by omega
        clear hq ha hp hb hs5 hs7 HA5 HK w6 HPF HPT HSF HST HOF HOT HRi HL
        go_wp2_with fail
        refine (parse_any (ad p5) la c5 _ w7 HS5.out (by omega)).mono ?_
        intro e w8 hq
        obtain ⟨H9, rfl, ho, hh, hb⟩ := parse_of HQF.out hq
        have HO9 := Lib.hid ho
        have hr9 := ho.rnd
        have HE9 := Lib.hid (show H9.has = false from congrArg Hel.has hh)
        replace HB := Lib.hid (HB.out.trans (hb.mono HB.out.size))
        replace HS5 := Lib.hid (HS5.out.below hb)
        replace HS7 := Lib.hid (HS7.out.below hb)
        clear hq ho hh hb w7
        go_upto_region 12 with (refine go_st 28 (Blk.new _ _ _) infH rfl (Hv.size hr9) (Hv.one _) rfl rfl rfl rfl ?_)
        rw [← zeroC]
        obtain ⟨la9, hb⟩ := laid_new HO9.out
        replace HB := Lib.hid (HB.out.trans (hb.mono HB.out.size))
        replace HS5 := Lib.hid (HS5.out.below hb)
        replace HS7 := Lib.hid (HS7.out.below hb)
        have HK9 := Lib.hid la9.blk
        clear la9 hb HO9
        generalize (w8.alloc (.cells Hv.zero.C 28)).setRow w8.heap.size H9.C = w10 at *
        generalize w8.heap.size = g9 at *
        clear w8
        go_wp2_with fail
        refine (parse_any (ad p7) (la + 2) c7 _ w10 HS7.out (by omega)).mono ?_
        intro e w11 hq
        obtain ⟨H11, rfl, ho, hh, hb⟩ := parse_of HQT.out hq
        have HO11 := Lib.hid ho
        have hr11 := ho.rnd
        have HE11 := Lib.hid (show H11.has = true from congrArg Hel.has hh)
        have HX11 := Lib.hid (show H11.xs.length = 0 from by
          have h := congrArg (fun h => h.exts.length) hh
          have h' : H11.xs.length = H.xs.length := by simpa [Hv.hel] using h
          rw [h', hx0])
        replace HB := Lib.hid (HB.out.trans (hb.mono HB.out.size))
        replace HS5 := Lib.hid (HS5.out.below hb)
        replace HS7 := Lib.hid (HS7.out.below hb)
        replace HK9 := Lib.hid (HK9.out.below hb HK9.out.lt)
        clear hq ho hh hb w10
        go_upto_region 13 with (refine go_st 28 (Blk.new _ _ _) infH rfl (Hv.size hr11) (Hv.one _) rfl rfl rfl rfl ?_)
        rw [← zeroC]
        obtain ⟨la11, hb⟩ := laid_new HO11.out
        replace HB := Lib.hid (HB.out.trans (hb.mono HB.out.size))
        replace HS5 := Lib.hid (HS5.out.below hb)
        replace HS7 := Lib.hid (HS7.out.below hb)
        replace HK9 := Lib.hid (HK9.out.below hb HK9.out.lt)
        have HK11 := Lib.hid la11.blk
        clear la11 hb HO11
        generalize (w11.alloc (.cells Hv.zero.C 28)).setRow w11.heap.size H11.C = w12 at *
        generalize w11.heap.size = g11 at *
        clear w11
        have c9 := cell_has HK9.out hr9
        have c11 := cell_has HK11.out hr11
        have cx11 := cell_xs HK11.out hr11
        rw [HE9.out] at c9
        rw [HE11.out] at c11
        rw [HX11.out] at cx11
        have hst := HS7.out.take (k := la) (by omega)
        rw [HTk.out] at hst
        have hs2l := fun w' => slice_to und8 siz8 (ad p7) (la + 2) c7 w' la hc7'
        have kp := fun j => con8 (c := c5) (show Src (w12.drewN j) (ad p5) la _ from HS5.out)
        have kt := fun j => con8 (c := c7) (show Src (w12.drewN j) (ad p7) la _ from hst)
        generalize (⟨(layS ({ H with has := false } : Hv).hel).toArray⟩ : ByteArray) = sp at *
        clear HS5 HS7 HK9 HK11 HE9 HE11 HX11 HTk HQF HQT HLa HL2 hst hright hright2 HX0
        have kp0 := kp 0
        have kt0 := kt 0
        go_quiet (fail)
        go_wp2_with fail
        go_ret
        exact ⟨rfl, HB.out.trans (((But.refl [] w12).drewN nq).below (by simp) HB.out.size)⟩
      · have hright2 : ¬ Right ({ H with has := true } : Hv).hel := fun h => hright (HRi.out.2 h)
        intro e w5 hq
        obtain ⟨p5, c5, rfl, hb⟩ := print_none (HPF.out.2.2 hright) hq
        replace HK := Lib.hid (HK.out.below hb HK.out.lt)
        replace HB := Lib.hid (HB.out.trans (hb.mono HB.out.size))
        clear hq hb w4
        have hc := cell_has HK.out hr
        have hfz := HK.out.frozen 36
        go_upto_region 8 with fail
        clear hc hfz
        have hbut : But [g] w5 (w5.setCell ⟨g, 36, none⟩ (.bool true)) := (But.refl _ _).set_ (p := ⟨g, 36, none⟩) (.inl (by simp)) _
        replace HK := Lib.hid (blk_has HK.out hr true)
        replace HB := Lib.hid (HB.out.trans (hbut.below (by simp; omega) HB.out.size))
        clear hbut
        generalize w5.setCell ⟨g, 36, none⟩ (.bool true) = w6 at *
        clear w5
        go_wp2_with (refine go_ld 28 HK.out undH rfl infH (Hv.size (H := { H with has := true }) hr) rfl rfl rfl ?_)
        refine (print_any ({ H with has := true } : Hv) w6 (HOT.out.below HB.out) HST.out).mono ?_
        intro e w7 hq
        obtain ⟨p7, c7, rfl, hb⟩ := print_none (HPT.out.2.2 hright2) hq
        replace HB := Lib.hid (HB.out.trans (hb.mono HB.out.size))
        clear hq hb
        go_wp2_with fail
        go_ret
        exact ⟨rfl, HB.out⟩
    · have hx2 : (0 : Int) < (H.xs.length : Int) := by omega
      clear HSh
      generalize H.xs.length = nx at *
      go_wp2_with fail
      go_ret
      exact ⟨rfl, HB.out⟩

theorem walk (W : World) (H : Hv) (ok : H.Ok W) :
    Calls Try.prog 8 #[.agg H.C] W fun e w' => e = .returned (.bool true) ∧ Below W.heap.size W w' :=
  walk_any W H ok

set_option maxRecDepth 100000 in
set_option linter.unusedVariables false in
theorem lifted (os : Os) (started : os.Started) (H : Type) (enc : TypeId × Value → H) :
    ReturnsInHanded {} Try.checked os 8 .any (Rows.helloBareSpec.pre6 enc Try.prog Try.f8 Rows.helloBareRow.domain false) (Rows.helloBareSpec.post enc Try.prog Try.f8 false true false false) := by
  refine returnsInHanded_of_change_sized (C := Try.checked) own started (by kernel_rfl) Try.func8
    (ChangeSpec.witness6 (enc := enc) (C := Try.checked) false ⟨#[], #[.agg #[.int .i64 0, .int .u8 0, .int .u8 0, .int .u8 0, .int .u8 0, .int .u8 0, .int .u8 0, .int .u8 0, .int .u8 0, .int .u8 0, .int .u8 0, .int .u8 0, .int .u8 0, .int .u8 0, .int .u8 0, .int .u8 0, .int .u8 0, .int .u8 0, .int .u8 0, .int .u8 0, .int .u8 0, .int .u8 0, .int .u8 0, .int .u8 0, .int .u8 0, .int .u8 0, .int .u8 0, .int .u8 0, .int .u8 0, .int .u8 0, .int .u8 0, .int .u8 0, .int .u8 0, .slice none 0 0, .slice none 0 0, .slice none 0 0, .bool false, .slice none 0 0]], []⟩ 8 (by kernel_rfl) (by kernel_rfl) (by kernel_rfl) (by kernel_rfl)) ?_
  intro W base args ds gs before hval0 hW hcnd hsz0 _
  have hval : ∀ (j : Nat) t v, Try.f8.params[j]? = some t → args[j]? = some v → Value.okWide Try.prog W .any base t v := hval0
  have hW' := hW
  obtain ⟨p, q, hA0, hV, rfl, hfz, hnd⟩ := hW
  have hA : DataW.TrodAll enc Try.prog W 0 (fun _ => true) true Try.f8.params.toList args.toList ds p := hA0
  have hsz : (DataW.weightsEach Try.prog (Try.f8.params.toList ++ Rows.helloBareSpec.plain.varTypes Try.prog) (ds ++ gs)).all (· ≤ reachBytes) = true := hsz0
  rw [Try.params8] at hA hval hsz
  obtain ⟨v0, vs0, d0, ds0, p0, q0, hargs, rfl, rfl, h0, r0⟩ := trodAll_cons hA
  obtain ⟨rfl, rfl, rfl⟩ := trodAll_nil r0
  obtain rfl : args = #[v0] := by cases args; simp_all
  obtain ⟨rfl, rfl⟩ := trodVars_none hV
  have k0 := h0
  have lt0 : ∀ x ∈ p0, x.block < W.heap.size := by obtain ⟨m, hm⟩ := k0; exact DataW.trod_lt m _ _ _ hm
  obtain ⟨a0, ok0, rfl⟩ := open_hello (hval 0 28 v0 rfl rfl) h0 (reach_at hsz (j := 0) (t := 28) rfl rfl)
  clear hA0 hval0 hsz0
  refine (walk W a0 ok0).mono fun e W' ⟨he, bel⟩ => ?_
  subst he
  exact ⟨_, rfl, _, _, _, [], _, [], hW', trodAll_mk1 (shut_bool Try.underlying4 _), (trodAll_cons_mk (Below.trod laidOut (by kernel_rfl) (of_decide_eq_true (by kernel_rfl)) k0 bel lt0) trodAll_mk0), rfl, bel.frame _, fun h => by cases h⟩

theorem over : Rows.helloBareRow.holds Try.pinned (OpenSpec.ofChange Rows.helloBareSpec) :=
  OpenClaim.holds_of_wide 8 Try.f8 rfl rfl rfl rfl rfl rfl rfl ⟨rfl, rfl, rfl, rfl, rfl⟩ rfl rfl rfl rfl rfl (by kernel_rfl) Try.func8 (by kernel_rfl)
    (of_decide_eq_true (by kernel_rfl)) (by unfold Func.isWrapper; first | (rw [if_pos (by decide +kernel)]; kernel_rfl) | (rw [if_neg (by decide +kernel)]; exact ⟨rfl, rfl⟩))
    (fun os started H enc _ => lifted os started H enc)

theorem proved : Rows.HelloBareSaid := over
#print axioms proved
end Go.Proofs.Ytpnidmegeimboaa.helloBare
