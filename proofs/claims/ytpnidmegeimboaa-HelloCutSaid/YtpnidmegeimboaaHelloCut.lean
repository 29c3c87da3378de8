/-
  'Bytes of which some are missing are no hello, but where its extensions begin, and nothing may stand behind a hello' (hagioscopelaw09.HelloCut) holds: whatever the bytes and the place, the call returns true and leaves what was there as it was. No condition.
-/
import Derived.Test.YtpnidmegeimboaaHeSmall
import Derived.Test.YtpnidmegeimboaaHeLaw
import Derived.Test.YtpnidmegeimboaaLiftHel
import Derived.Deep.RegionHeld
namespace Go.Proofs.Ytpnidmegeimboaa.helloCut
open Go.ChangeShapes Go.WideShapes Go.ChangeAt Go.RowKit
open Go.ChangeMaps (open_string shut_string)
open Go.Proofs.Ytpnidmegeimboaa.Wd Go.Proofs.Ytpnidmegeimboaa.Be Go.Proofs.Ytpnidmegeimboaa.He Go.Proofs.Ytpnidmegeimboaa.Lift

theorem infB : (Try.prog.info? 5).map (fun i => (i.zero, i.size, i.bytes)) = some (some (.int .u8 0), 1, 1) := by kernel_rfl

set_option maxRecDepth 100000 in
set_option maxHeartbeats 4000000 in
theorem walk_any (w : World) (A : Option Addr) (n cap : Nat) (xs : List UInt8) (cut : Int) (A2 : Option Addr) (m c2 : Nat) (ys : List UInt8) (hnc : n ≤ cap) (hn : n ≤ 140737488351232) (hs : Src w A n xs) (hs2 : Src w A2 m ys) :
    Calls Try.prog 6 #[.slice A n cap, .int .i64 cut, .slice A2 m c2] w fun e w' => e = .returned (.bool true) ∧ Below w.heap.size w w' := by
  have HS0 := Lib.hid hs
  have HT0 := Lib.hid hs2
  clear hs hs2
  go_enter Try.func6, Try.ntmps6
  go_wp2_with fail
  refine (small_any w).mono ?_
  rintro e w1 ⟨rfl, hb1⟩
  have HB1 := Lib.hid hb1
  have HS1 := Lib.hid (HS0.out.below hb1)
  have HT1 := Lib.hid (HT0.out.below hb1)
  clear hb1 HS0 HT0
  go_wp2_with fail
  refine (parse_any A n cap xs w1 HS1.out (by omega)).mono ?_
  rintro e w2 ⟨H, rfl, ho, hh, hb⟩
  have HB2 := Lib.hid (HB1.out.trans (hb.mono HB1.out.size))
  have HS2 := Lib.hid (HS1.out.below hb)
  have HT2 := Lib.hid (HT1.out.below hb)
  have HO2 := Lib.hid ho
  have HH := Lib.hid (show H.has = (parseS xs).1.has from congrArg Hel.has hh)
  have hr := ho.rnd
  clear hb ho hh HS1 HB1 HT1
  obtain ⟨z, hz⟩ : ∃ z, z = (parseS xs).2 := ⟨_, rfl⟩
  rw [← hz]
  have HZ := Lib.hid hz
  clear hz
  go_upto_region 3 with (refine go_st 28 (Blk.new _ _ _) infH rfl (Hv.size hr) (Hv.one _) rfl rfl rfl rfl ?_)
  rw [← zeroC]
  obtain ⟨la, hb⟩ := laid_new HO2.out
  have HA := Lib.hid la
  have HB := Lib.hid (HB2.out.trans (hb.mono HB2.out.size))
  have HS := Lib.hid (HS2.out.below hb)
  have HT := Lib.hid (HT2.out.below hb)
  clear la hb HB2 HO2 HS2 HT2
  generalize (w2.alloc (.cells Hv.zero.C 28)).setRow w2.heap.size H.C = w3 at *
  generalize w2.heap.size = g at *
  clear w2 w1
  by_cases hz0 : z = 0
  · subst hz0
    by_cases h3 : (n : Int) ≤ 3000
    · by_cases hm1 : (m : Int) ≤ 100
      · have hch := cell_has HA.out.blk hr
        by_cases hm0 : (0 : Int) < (m : Int)
        · cases hhas : H.has with
          | true =>
            rw [hhas] at hch
            have HF := Lib.hid (show (parseS (([] ++ xs) ++ ys)).2 = 3 from more_parse HZ.out.symm (HH.out.symm.trans hhas) (fun e => by have := HT.out.1; rw [e, List.length_nil] at this; omega))
            have HSa := Lib.hid (HS.out.alloc (.cells #[] 5))
            have HOa := Lib.hid (Own.empty w3 w3.heap.size (Nat.le_refl _))
            have hxl := HS.out.1
            have hyl := HT.out.1
            go_wp2_with (at_builtin; first
              | (refine wpList_app rfl (.tmp 41) (.tmp 42) 22 rfl und8 infB w3.heap.size _ [] rfl HOa.out A n cap xs rfl HSa.out (by rw [List.length_nil]; omega) (by simp) ?_; intro v4 w4 HO4 hb4
                 have HB4 := Lib.hid (((Below.refl _ _).alloc (Nat.le_refl _) (.cells #[] 5)).trans hb4)
                 have HT4 := Lib.hid (HT.out.below HB4.out)
                 have hz4 := HB4.out.size
                 clear hb4)
              | (refine wpList_app rfl (.tmp 43) (.tmp 44) 22 rfl und8 infB w3.heap.size _ ([] ++ xs) rfl HO4.out A2 m c2 ys rfl HT4.out (by rw [List.nil_append]; omega) hz4 ?_; intro v5 w5 HO5 hb5
                 have HB5 := Lib.hid (HB4.out.trans hb5)
                 obtain ⟨A5, c5, rfl, -, hs5, -⟩ := HO5.out.cut_
                 have hl5 : (([] ++ xs) ++ ys).length = n + m := by rw [List.nil_append, List.length_append, hxl, hyl]
                 rw [hl5] at hs5 ⊢
                 have HS5 := Lib.hid hs5
                 clear hb5 hs5 hl5))
            clear hch HSa HOa HO4 HO5 HT4 HB4 hz4
            refine (parse_any A5 (n + m) c5 (([] ++ xs) ++ ys) w5 HS5.out (by omega)).mono ?_
            intro e w8 hq
            obtain ⟨H8, rfl, ho, hb⟩ := parse_ofE HF.out hq
            have HO8 := Lib.hid ho
            have hr8 := ho.rnd
            have HB8 := Lib.hid (HB5.out.trans (hb.mono HB5.out.size))
            clear hq ho hb HB5 HS5 HF hxl hyl
            go_upto_region 7 with (refine go_st 28 (Blk.new _ _ _) infH rfl (Hv.size hr8) (Hv.one _) rfl rfl rfl rfl ?_)
            rw [← zeroC]
            obtain ⟨-, hb⟩ := laid_new HO8.out
            replace HB8 := Lib.hid (HB8.out.trans (hb.mono HB8.out.size))
            replace HA := Lib.hid (HA.out.below HB8.out)
            replace HS := Lib.hid (HS.out.below HB8.out)
            replace HB := Lib.hid (HB.out.trans (HB8.out.mono HB.out.size))
            clear hb HO8 HB8 HT
            generalize (w8.alloc (.cells Hv.zero.C 28)).setRow w8.heap.size H8.C = w9 at *
            generalize w8.heap.size = g8 at *
            clear w8
            go_upto_region 9 with fail
            clear hhas
            by_cases hcut : 0 ≤ cut ∧ cut < (n : Int)
            · obtain ⟨k, rfl⟩ := Int.eq_ofNat_of_zero_le hcut.1
              have hkn : k < n := by omega
              have hkc : (k : Int) ≤ (cap : Int) := by omega
              have HP := Lib.hid (cut_parse HZ.out.symm (k := k) (by rw [HS.out.1]; exact hkn))
              clear HZ
              go_wp2_with fail
              refine (parse_any A k cap (xs.take k) _ (HS.out.take (by omega)) (by omega)).mono ?_
              rintro e w6 ⟨H6, rfl, ho, hh, hb⟩
              have HB6 := Lib.hid (HB.out.trans (hb.mono HB.out.size))
              have HA6 := Lib.hid (HA.out.below hb)
              have HO6 := Lib.hid ho
              have hr6 := ho.rnd
              have HH6 := Lib.hid (show H6.has = (parseS (xs.take k)).1.has from congrArg Hel.has hh)
              clear hb ho hh HB HA HS
              obtain ⟨z6, hz6⟩ : ∃ z6, z6 = (parseS (xs.take k)).2 := ⟨_, rfl⟩
              rw [← hz6] at HP ⊢
              clear hz6
              go_upto_region 12 with (refine go_st 28 (Blk.new _ _ _) infH rfl (Hv.size hr6) (Hv.one _) rfl rfl rfl rfl ?_)
              rw [← zeroC]
              obtain ⟨la, hb⟩ := laid_new HO6.out
              have HA7 := Lib.hid la
              have HB7 := Lib.hid (HB6.out.trans (hb.mono HB6.out.size))
              have HA8 := Lib.hid (HA6.out.below hb)
              clear la hb HB6 HO6 HA6
              generalize (w6.alloc (.cells Hv.zero.C 28)).setRow w6.heap.size H6.C = w7 at *
              generalize w6.heap.size = g6 at *
              clear w6
              rcases HP.out with ⟨p1, p2, p3⟩ | p1
              · have e1 : H.has = true := HH.out.trans p2
                have e6 : H6.has = false := HH6.out.trans p3
                have c1 := cell_has HA8.out.blk hr
                have c6 := cell_has HA7.out.blk hr6
                rw [e1] at c1
                rw [e6] at c6
                subst p1
                clear HP HH HH6 e1 e6 p2 p3
                go_wp2_with fail
                go_ret
                exact ⟨rfl, HB7.out⟩
              · subst p1
                clear HP HH HH6
                go_wp2_with fail
                go_ret
                exact ⟨rfl, HB7.out⟩
            · by_cases hneg : cut < 0
              · go_wp2_with fail
                go_ret
                exact ⟨rfl, HB.out⟩
              · have hge : (n : Int) ≤ cut := by omega
                go_wp2_with fail
                go_ret
                exact ⟨rfl, HB.out⟩
          | false =>
            rw [hhas] at hch
            go_upto_region 9 with fail
            clear hch hhas HT
            by_cases hcut : 0 ≤ cut ∧ cut < (n : Int)
            · obtain ⟨k, rfl⟩ := Int.eq_ofNat_of_zero_le hcut.1
              have hkn : k < n := by omega
              have hkc : (k : Int) ≤ (cap : Int) := by omega
              have HP := Lib.hid (cut_parse HZ.out.symm (k := k) (by rw [HS.out.1]; exact hkn))
              clear HZ
              go_wp2_with fail
              refine (parse_any A k cap (xs.take k) _ (HS.out.take (by omega)) (by omega)).mono ?_
              rintro e w6 ⟨H6, rfl, ho, hh, hb⟩
              have HB6 := Lib.hid (HB.out.trans (hb.mono HB.out.size))
              have HA6 := Lib.hid (HA.out.below hb)
              have HO6 := Lib.hid ho
              have hr6 := ho.rnd
              have HH6 := Lib.hid (show H6.has = (parseS (xs.take k)).1.has from congrArg Hel.has hh)
              clear hb ho hh HB HA HS
              obtain ⟨z6, hz6⟩ : ∃ z6, z6 = (parseS (xs.take k)).2 := ⟨_, rfl⟩
              rw [← hz6] at HP ⊢
              clear hz6
              go_upto_region 12 with (refine go_st 28 (Blk.new _ _ _) infH rfl (Hv.size hr6) (Hv.one _) rfl rfl rfl rfl ?_)
              rw [← zeroC]
              obtain ⟨la, hb⟩ := laid_new HO6.out
              have HA7 := Lib.hid la
              have HB7 := Lib.hid (HB6.out.trans (hb.mono HB6.out.size))
              have HA8 := Lib.hid (HA6.out.below hb)
              clear la hb HB6 HO6 HA6
              generalize (w6.alloc (.cells Hv.zero.C 28)).setRow w6.heap.size H6.C = w7 at *
              generalize w6.heap.size = g6 at *
              clear w6
              rcases HP.out with ⟨p1, p2, p3⟩ | p1
              · have e1 : H.has = true := HH.out.trans p2
                have e6 : H6.has = false := HH6.out.trans p3
                have c1 := cell_has HA8.out.blk hr
                have c6 := cell_has HA7.out.blk hr6
                rw [e1] at c1
                rw [e6] at c6
                subst p1
                clear HP HH HH6 e1 e6 p2 p3
                go_wp2_with fail
                go_ret
                exact ⟨rfl, HB7.out⟩
              · subst p1
                clear HP HH HH6
                go_wp2_with fail
                go_ret
                exact ⟨rfl, HB7.out⟩
            · by_cases hneg : cut < 0
              · go_wp2_with fail
                go_ret
                exact ⟨rfl, HB.out⟩
              · have hge : (n : Int) ≤ cut := by omega
                go_wp2_with fail
                go_ret
                exact ⟨rfl, HB.out⟩
        · go_upto_region 9 with fail
          clear hch HT
          by_cases hcut : 0 ≤ cut ∧ cut < (n : Int)
          · obtain ⟨k, rfl⟩ := Int.eq_ofNat_of_zero_le hcut.1
            have hkn : k < n := by omega
            have hkc : (k : Int) ≤ (cap : Int) := by omega
            have HP := Lib.hid (cut_parse HZ.out.symm (k := k) (by rw [HS.out.1]; exact hkn))
            clear HZ
            go_wp2_with fail
            refine (parse_any A k cap (xs.take k) _ (HS.out.take (by omega)) (by omega)).mono ?_
            rintro e w6 ⟨H6, rfl, ho, hh, hb⟩
            have HB6 := Lib.hid (HB.out.trans (hb.mono HB.out.size))
            have HA6 := Lib.hid (HA.out.below hb)
            have HO6 := Lib.hid ho
            have hr6 := ho.rnd
            have HH6 := Lib.hid (show H6.has = (parseS (xs.take k)).1.has from congrArg Hel.has hh)
            clear hb ho hh HB HA HS
            obtain ⟨z6, hz6⟩ : ∃ z6, z6 = (parseS (xs.take k)).2 := ⟨_, rfl⟩
            rw [← hz6] at HP ⊢
            clear hz6
            go_upto_region 12 with (refine go_st 28 (Blk.new _ _ _) infH rfl (Hv.size hr6) (Hv.one _) rfl rfl rfl rfl ?_)
            rw [← zeroC]
            obtain ⟨la, hb⟩ := laid_new HO6.out
            have HA7 := Lib.hid la
            have HB7 := Lib.hid (HB6.out.trans (hb.mono HB6.out.size))
            have HA8 := Lib.hid (HA6.out.below hb)
            clear la hb HB6 HO6 HA6
            generalize (w6.alloc (.cells Hv.zero.C 28)).setRow w6.heap.size H6.C = w7 at *
            generalize w6.heap.size = g6 at *
            clear w6
            rcases HP.out with ⟨p1, p2, p3⟩ | p1
            · have e1 : H.has = true := HH.out.trans p2
              have e6 : H6.has = false := HH6.out.trans p3
              have c1 := cell_has HA8.out.blk hr
              have c6 := cell_has HA7.out.blk hr6
              rw [e1] at c1
              rw [e6] at c6
              subst p1
              clear HP HH HH6 e1 e6 p2 p3
              go_wp2_with fail
              go_ret
              exact ⟨rfl, HB7.out⟩
            · subst p1
              clear HP HH HH6
              go_wp2_with fail
              go_ret
              exact ⟨rfl, HB7.out⟩
          · by_cases hneg : cut < 0
            · go_wp2_with fail
              go_ret
              exact ⟨rfl, HB.out⟩
            · have hge : (n : Int) ≤ cut := by omega
              go_wp2_with fail
              go_ret
              exact ⟨rfl, HB.out⟩
      · have hm' : (100 : Int) < (m : Int) := by omega
        go_wp2_with fail
        go_ret
        exact ⟨rfl, HB.out⟩
    · have h3' : (3000 : Int) < (n : Int) := by omega
      go_wp2_with fail
      go_ret
      exact ⟨rfl, HB.out⟩
  · have hz1 : (z != 0) = true := by simpa using hz0
    go_wp2_with fail
    go_ret
    exact ⟨rfl, HB.out⟩

theorem walk (W : World) (A : Option Addr) (n cap : Nat) (xs : List UInt8) (le : n ≤ cap) (mx : n ≤ 140737488351232) (src : Src W A n xs) (a : Int) (_b : -9223372036854775808 ≤ a ∧ a ≤ 9223372036854775807) (A2 : Option Addr) (n2 cap2 : Nat) (ys : List UInt8) (_le2 : n2 ≤ cap2) (_mx2 : n2 ≤ 140737488351232) (src2 : Src W A2 n2 ys) :
    Calls Try.prog 6 #[.slice A n cap, .int .i64 a, .slice A2 n2 cap2] W fun e w' => e = .returned (.bool true) ∧ Below W.heap.size W w' :=
  walk_any W A n cap xs a A2 n2 cap2 ys le mx src src2

set_option maxRecDepth 100000 in
set_option linter.unusedVariables false in
theorem lifted (os : Os) (started : os.Started) (H : Type) (enc : TypeId × Value → H) :
    ReturnsInHanded {} Try.checked os 6 .any (Rows.helloCutSpec.pre6 enc Try.prog Try.f6 Rows.helloCutRow.domain false) (Rows.helloCutSpec.post enc Try.prog Try.f6 false true false false) := by
  refine returnsInHanded_of_change_sized (C := Try.checked) own started (by kernel_rfl) Try.func6
    (ChangeSpec.witness6 (enc := enc) (C := Try.checked) false ⟨#[], #[.slice none 0 0, .int .i64 0, .slice none 0 0], []⟩ 8 (by kernel_rfl) (by kernel_rfl) (by kernel_rfl) (by kernel_rfl)) ?_
  intro W base args ds gs before hval0 hW hcnd hsz0 _
  have hval : ∀ (j : Nat) t v, Try.f6.params[j]? = some t → args[j]? = some v → Value.okWide Try.prog W .any base t v := hval0
  have hW' := hW
  obtain ⟨p, q, hA0, hV, rfl, hfz, hnd⟩ := hW
  have hA : DataW.TrodAll enc Try.prog W 0 (fun _ => true) true Try.f6.params.toList args.toList ds p := hA0
  have hsz : (DataW.weightsEach Try.prog (Try.f6.params.toList ++ Rows.helloCutSpec.plain.varTypes Try.prog) (ds ++ gs)).all (· ≤ reachBytes) = true := hsz0
  rw [Try.params6] at hA hval hsz
  obtain ⟨v0, vs0, d0, ds0, p0, q0, hargs, rfl, rfl, h0, r0⟩ := trodAll_cons hA
  obtain ⟨v1, vs1, d1, ds1, p1, q1, rfl, rfl, rfl, h1, r1⟩ := trodAll_cons r0
  obtain ⟨v2, vs2, d2, ds2, p2, q2, rfl, rfl, rfl, h2, r2⟩ := trodAll_cons r1
  obtain ⟨rfl, rfl, rfl⟩ := trodAll_nil r2
  obtain rfl : args = #[v0, v1, v2] := by cases args; simp_all
  obtain ⟨rfl, rfl⟩ := trodVars_none hV
  have k0 := h0
  have lt0 : ∀ x ∈ p0, x.block < W.heap.size := by obtain ⟨m, hm⟩ := k0; exact DataW.trod_lt m _ _ _ hm
  obtain ⟨A0, n0, cap0, xs0, rfl, le0, mx0, src0⟩ := open_bytes_sized (hval 0 22 v0 rfl rfl) h0 (reach_at hsz (j := 0) (t := 22) rfl rfl)
  have k1 := h1
  have lt1 : ∀ x ∈ p1, x.block < W.heap.size := by obtain ⟨m, hm⟩ := k1; exact DataW.trod_lt m _ _ _ hm
  obtain ⟨a1, rfl, rfl, rfl, w1⟩ := open_int Try.underlying3 (hval 1 3 v1 rfl rfl) h1
  have b1 := int_of w1
  have k2 := h2
  have lt2 : ∀ x ∈ p2, x.block < W.heap.size := by obtain ⟨m, hm⟩ := k2; exact DataW.trod_lt m _ _ _ hm
  obtain ⟨A2, n2, cap2, xs2, rfl, le2, mx2, src2⟩ := open_bytes_sized (hval 2 22 v2 rfl rfl) h2 (reach_at hsz (j := 2) (t := 22) rfl rfl)
  clear hA0 hval0 hsz0
  refine (walk W A0 n0 cap0 xs0 le0 mx0 src0 a1 b1 A2 n2 cap2 xs2 le2 mx2 src2).mono fun e W' ⟨he, bel⟩ => ?_
  subst he
  exact ⟨_, rfl, _, _, _, [], _, [], hW', trodAll_mk1 (shut_bool Try.underlying4 _), (trodAll_cons_mk (Below.trod laidOut (by kernel_rfl) (of_decide_eq_true (by kernel_rfl)) k0 bel lt0) (trodAll_cons_mk (Below.trod laidOut (by kernel_rfl) (of_decide_eq_true (by kernel_rfl)) k1 bel lt1) (trodAll_cons_mk (Below.trod laidOut (by kernel_rfl) (of_decide_eq_true (by kernel_rfl)) k2 bel lt2) trodAll_mk0))), rfl, bel.frame _, fun h => by cases h⟩

theorem over : Rows.helloCutRow.holds Try.pinned (OpenSpec.ofChange Rows.helloCutSpec) :=
  OpenClaim.holds_of_wide 6 Try.f6 rfl rfl rfl rfl rfl rfl rfl ⟨rfl, rfl, rfl, rfl, rfl⟩ rfl rfl rfl rfl rfl (by kernel_rfl) Try.func6 (by kernel_rfl)
    (of_decide_eq_true (by kernel_rfl)) (by unfold Func.isWrapper; first | (rw [if_pos (by decide +kernel)]; kernel_rfl) | (rw [if_neg (by decide +kernel)]; exact ⟨rfl, rfl⟩))
    (fun os started H enc _ => lifted os started H enc)

theorem proved : Rows.HelloCutSaid := over
#print axioms proved
end Go.Proofs.Ytpnidmegeimboaa.helloCut
