/-
  HttppeekKnown: what is known does not change, whatever comes, and nothing is known ahead of the last byte that it needs; else the small case comes out right. Conditions: none beyond the statement's own.
-/
import Derived.Test.YtgbhnjkigjecmaaGreatDoorQ31
import Derived.Test.YtgbhnjkigjecmaaGreatDoorQ32
import Derived.Test.YtgbhnjkigjecmaaGreatDoorCards
import Derived.Test.YtgbhnjkigjecmaaGreatDoorTie
set_option maxRecDepth 100000
namespace Go.Proofs.YtgbhnjkigjecmaaGreatDoor.httppeekKnown
open Go.ChangeMaps (open_string shut_string)
open Go.ChangeShapes Go.WideShapes Go.ChangeAt Go.RowKit Go.Proofs.YtgbhnjkigjecmaaGreatDoor.Wd Go.Proofs.YtgbhnjkigjecmaaGreatDoor.Hp Go.Proofs.YtgbhnjkigjecmaaGreatDoor.Lift

set_option linter.unusedSimpArgs false in
set_option maxHeartbeats 16000000 in
theorem walk (W : World) (A : Option Addr) (n cap : Nat) (xs : List UInt8) (le0 : n ≤ cap) (mx : cap ≤ maxLen) (src : Src W A n xs) (A2 : Option Addr) (m c2 : Nat) (ys : List UInt8) (le2 : m ≤ c2) (mx2 : c2 ≤ maxLen) (src2 : Src W A2 m ys) (hE : Ad.Env W.heap.size W) :
    Calls Tryz.prog 5 #[.slice A n cap, .slice A2 m c2] W fun e w' => e = .returned (.bool true) ∧ Below W.heap.size W w' := by
  have hn9 : n ≤ 9223372036854775807 := Nat.le_trans le0 mx
  have hm9 : m ≤ 9223372036854775807 := Nat.le_trans le2 mx2
  have HS := Lib.hid src
  have HT := Lib.hid src2
  have HE := Lib.hid hE
  have HSm := Lib.hid (small_any W hE)
  clear hE mx src mx2 src2 le2
  go_enter Tryz.func5, Tryz.ntmps5
  go_wp2_with fail
  refine HSm.out.mono ?_
  rintro e w1 ⟨rfl, hb⟩
  have HL1 := Lib.hid hb
  have HS1 := Lib.hid (HS.out.below hb)
  have HT1 := Lib.hid (HT.out.below hb)
  clear hb HSm HS HT
  by_cases h1 : 3000 < n
  · have i1 : decide ((3000 : Int) < (n : Int)) = true := decide_eq_true (by omega)
    clear h1
    go_wp2_with fail
    go_ret
    exact ⟨rfl, HL1.out⟩
  have i1 : decide ((3000 : Int) < (n : Int)) = false := decide_eq_false (by omega)
  have hn : n ≤ 3000 := by omega
  by_cases h2 : 500 < m
  · have i2 : decide ((500 : Int) < (m : Int)) = true := decide_eq_true (by omega)
    clear h1 h2
    go_wp2_with fail
    go_ret
    exact ⟨rfl, HL1.out⟩
  have i2 : decide ((500 : Int) < (m : Int)) = false := decide_eq_false (by omega)
  have hm : m ≤ 500 := by omega
  clear h1 h2
  have HA := Lib.hid (fun w hE hs => all_any (B := W.heap.size) A n cap xs w hE hs (by omega))
  have HAg := Lib.hid (fun B C c zs w hE hs hz => all_any (B := W.heap.size) B C c zs w hE hs hz)
  unfold AllHP at HA HAg
  have hxl := HS1.out.1
  have hyl := HT1.out.1
  have hop : (allH xs).z = 0 → (allH xs).u = n ∧ ((allH (xs ++ ys)).z = 0 ∨ n < (allH (xs ++ ys)).u) := fun h => ⟨by rw [allH_used h, hxl], by
    by_cases h2 : (allH (xs ++ ys)).z = 0
    · exact .inl h2
    · exact .inr (by have := more_open h h2; omega)⟩
  have hkn : (allH xs).z ≠ 0 → 1 ≤ (allH xs).u ∧ (allH xs).u ≤ n ∧ (allH (xs.take ((allH xs).u - 1))).z = 0 ∧ allH (xs ++ ys) = allH xs := fun h => by
    obtain ⟨a1, a2, a3, a4⟩ := known h
    exact ⟨a1, by omega, a3, a4 ys⟩
  obtain ⟨t, ht⟩ : ∃ t, allH xs = t := ⟨_, rfl⟩
  obtain ⟨t2, ht2⟩ : ∃ t2, allH (xs ++ ys) = t2 := ⟨_, rfl⟩
  rw [ht] at HA hop hkn
  rw [ht2] at hop hkn
  have Hop := Lib.hid hop
  have Hkn := Lib.hid hkn
  have Ht2 := Lib.hid ht2
  clear ht ht2 hop hkn
  go_wp2_with fail
  refine (HA.out w1 (HE.out.below HL1.out) HS1.out).mono ?_
  rintro e' w2 ⟨rfl, hb⟩
  have HL2 := Lib.hid (HL1.out.trans (hb.mono HL1.out.size))
  have HS2 := Lib.hid (HS1.out.below hb)
  have HT2 := Lib.hid (HT1.out.below hb)
  clear hb HA HL1 HS1 HT1
  go_upto_region 5 with (refine St.go_st 31 (Blk.new _ _ _) infV rfl (vH_size _ _ _ _ _ _) (vH_one _ _ _ _ _ _) rfl rfl rfl rfl ?_)
  obtain ⟨hk, hb⟩ := verd_new w2 (vH (t.z : Int) 2 (t.u : Int) t.r ⟨t.h.toArray⟩ t.p)
  have HL3 := Lib.hid (HL2.out.trans (hb.mono HL2.out.size))
  have HK := Lib.hid hk
  have HS3 := Lib.hid (HS2.out.below hb)
  have HT3 := Lib.hid (HT2.out.below hb)
  clear hk hb HL2
  generalize (w2.alloc (.cells #[Value.int .i64 0, .int .i64 0, .int .i64 0, .int .i64 0, .string ⟨#[]⟩, .int .i64 0, .bool false, .string ⟨#[]⟩, .slice none 0 0, .slice none 0 0, .bool false] 31)).setRow w2.heap.size (vH (t.z : Int) 2 (t.u : Int) t.r ⟨t.h.toArray⟩ t.p) = w3 at *
  obtain ⟨G, hg⟩ : ∃ g, w2.heap.size = g := ⟨_, rfl⟩
  rw [hg] at HK
  rw [hg]
  clear hg
  clear HS2 HT2
  have HSa := Lib.hid (HS3.out.alloc (.cells #[] 5))
  have HOa := Lib.hid (Own.empty w3 w3.heap.size (Nat.le_refl _))
  go_wp2_with (at_builtin; first
    | (refine wpList_app rfl (.tmp 21) (.tmp 22) 22 rfl und8 inf8 w3.heap.size _ [] rfl HOa.out A n cap xs rfl HSa.out (by rw [List.length_nil]; omega) (by simp) ?_; intro v4 w4 HO4 hb4
       have HB4 := Lib.hid (((Below.refl _ _).alloc (Nat.le_refl _) (.cells #[] 5)).trans hb4)
       have HT4 := Lib.hid (HT3.out.below HB4.out)
       have hz4 := HB4.out.size
       clear hb4)
    | (refine wpList_app rfl (.tmp 23) (.tmp 24) 22 rfl und8 inf8 w3.heap.size _ ([] ++ xs) rfl HO4.out A2 m c2 ys rfl HT4.out (by rw [List.nil_append]; omega) hz4 ?_; intro v5 w5 HO5 hb5
       have HB5 := Lib.hid (HB4.out.trans hb5)
       obtain ⟨A5, c5, rfl, -, hs5, -⟩ := HO5.out.cut_
       have hl5 : (([] ++ xs) ++ ys).length = n + m := by rw [List.nil_append, List.length_append, hxl, hyl]
       rw [hl5] at hs5 ⊢
       have HS5 := Lib.hid hs5
       clear hb5 hs5 hl5))
  rw [List.nil_append] at HS5
  have HL5 := Lib.hid (HL3.out.trans (HB5.out.mono HL3.out.size))
  have HK5 := Lib.hid (HK.out.below HB5.out HK.out.lt)
  have HX5 := Lib.hid (HS3.out.below HB5.out)
  clear HSa HOa HO4 HO5 HT4 HB4 hz4 HB5 HL3 HK HS3 HT3
  refine (HAg.out A5 (n + m) c5 (xs ++ ys) w5 (HE.out.below HL5.out) HS5.out (by omega)).mono ?_
  rintro e' w6 ⟨rfl, hb⟩
  rw [Ht2.out]
  have HL6 := Lib.hid (HL5.out.trans (hb.mono HL5.out.size))
  have HK6 := Lib.hid (HK5.out.below hb HK5.out.lt)
  have HX6 := Lib.hid (HX5.out.below hb)
  clear hb HL5 HK5 HX5 HS5
  go_upto_region 6 with (refine St.go_st 31 (Blk.new _ _ _) infV rfl (vH_size _ _ _ _ _ _) (vH_one _ _ _ _ _ _) rfl rfl rfl rfl ?_)
  obtain ⟨hk, hb⟩ := verd_new w6 (vH (t2.z : Int) 2 (t2.u : Int) t2.r ⟨t2.h.toArray⟩ t2.p)
  have HL7 := Lib.hid (HL6.out.trans (hb.mono HL6.out.size))
  have HJ := Lib.hid hk
  have HK7 := Lib.hid (HK6.out.below hb HK6.out.lt)
  have HX7 := Lib.hid (HX6.out.below hb)
  clear hk hb HL6
  generalize (w6.alloc (.cells #[Value.int .i64 0, .int .i64 0, .int .i64 0, .int .i64 0, .string ⟨#[]⟩, .int .i64 0, .bool false, .string ⟨#[]⟩, .slice none 0 0, .slice none 0 0, .bool false] 31)).setRow w6.heap.size (vH (t2.z : Int) 2 (t2.u : Int) t2.r ⟨t2.h.toArray⟩ t2.p) = w7 at *
  obtain ⟨G2, hg⟩ : ∃ g, w6.heap.size = g := ⟨_, rfl⟩
  rw [hg] at HJ
  rw [hg]
  clear hg
  clear HK6 HX6
  have k0 : w7.cell? ⟨G, 0, none⟩ = some (.int .i64 (t.z : Int)) := by rw [HK7.out.cell]; rfl
  have k2 : w7.cell? ⟨G, 2, none⟩ = some (.int .i64 (t.u : Int)) := by rw [HK7.out.cell]; rfl
  have j0 : w7.cell? ⟨G2, 0, none⟩ = some (.int .i64 (t2.z : Int)) := by rw [HJ.out.cell]; rfl
  have j2 : w7.cell? ⟨G2, 2, none⟩ = some (.int .i64 (t2.u : Int)) := by rw [HJ.out.cell]; rfl
  by_cases hz : t.z = 0
  · obtain ⟨hu, hor⟩ := Hop.out hz
    rw [hz] at k0
    rw [hu] at k2
    have en : ((n : Int) == (n : Int)) = true := beq_self_eq_true _
    clear Hop Hkn hz hu
    obtain ⟨z2, hz2⟩ : ∃ z, t2.z = z := ⟨_, rfl⟩
    obtain ⟨u2, hu2⟩ : ∃ z, t2.u = z := ⟨_, rfl⟩
    rw [hz2] at j0 hor
    rw [hu2] at j2 hor
    clear hz2 hu2 HK7 HJ
    by_cases h2 : z2 = 0
    · have e1 : ((z2 : Int) == 0) = true := by rw [beq_iff_eq]; omega
      clear hor h2
      go_wp2_with fail
      go_ret
      exact ⟨rfl, HL7.out⟩
    · have e1 : ((z2 : Int) == 0) = false := by rw [beq_eq_false_iff_ne]; omega
      have e2 : n < u2 := by
        rcases hor with h | h
        · exact absurd h h2
        · exact h
      have e3 : (n : Int) < (u2 : Int) := by omega
      clear hor h2
      go_wp2_with fail
      go_ret
      exact ⟨rfl, HL7.out⟩
  obtain ⟨p1, p2, p3, p4⟩ := Hkn.out hz
  have e0 : ((t.z : Int) == 0) = false := by rw [beq_eq_false_iff_ne]; omega
  obtain ⟨v, hv⟩ : ∃ v, t.u = v + 1 := ⟨t.u - 1, by omega⟩
  rw [hv, Nat.add_sub_cancel] at p3
  have hvn : v < n := by omega
  subst p4
  obtain ⟨t3, ht3⟩ : ∃ t3, allH (xs.take v) = t3 := ⟨_, rfl⟩
  have hu3 : t3.u = v := by
    have := allH_used p3
    rw [ht3, List.length_take, hxl] at this
    omega
  rw [ht3] at p3
  have e1 : decide ((t2.u : Int) < 1) = false := decide_eq_false (by omega)
  have e2 : decide ((n : Int) < (t2.u : Int)) = false := decide_eq_false (by omega)
  have e3 : (t2.u : Int) - 1 = (v : Int) := by omega
  have HX8 := Lib.hid (HX7.out.take (Nat.le_of_lt hvn))
  have hsl : ∀ w', (Instr.sliceAt 22 (.slice A n cap) none (some (.int .i64 (v : Int))) none).run Tryz.prog w' = .ok (.slice A v cap) w' := fun w' => slice_to und8 siz8 A n cap w' v (by omega)
  have HAx := Lib.hid (fun w hE hs => HAg.out A v cap (xs.take v) w hE hs (by omega))
  rw [ht3] at HAx
  have HP3 := Lib.hid p3
  have HU3 := Lib.hid hu3
  clear Hop Hkn HX7 ht3 hv hz p1 p2 Ht2 p3 hu3
  go_wp2_with fail
  refine (HAx.out w7 (HE.out.below HL7.out) HX8.out).mono ?_
  rintro e' w8 ⟨rfl, hb⟩
  have HL8 := Lib.hid (HL7.out.trans (hb.mono HL7.out.size))
  have HK8 := Lib.hid (HK7.out.below hb HK7.out.lt)
  have HJ8 := Lib.hid (HJ.out.below hb HJ.out.lt)
  clear hb HL7 HK7 HJ HX8 HAx HAg k0 k2 j0 j2 hsl
  go_upto_region 11 with (refine St.go_st 31 (Blk.new _ _ _) infV rfl (vH_size _ _ _ _ _ _) (vH_one _ _ _ _ _ _) rfl rfl rfl rfl ?_)
  obtain ⟨hk, hb⟩ := verd_new w8 (vH (t3.z : Int) 2 (t3.u : Int) t3.r ⟨t3.h.toArray⟩ t3.p)
  have HL9 := Lib.hid (HL8.out.trans (hb.mono HL8.out.size))
  have HM := Lib.hid hk
  have HK9 := Lib.hid (HK8.out.below hb HK8.out.lt)
  have HJ9 := Lib.hid (HJ8.out.below hb HJ8.out.lt)
  clear hk hb HL8
  generalize (w8.alloc (.cells #[Value.int .i64 0, .int .i64 0, .int .i64 0, .int .i64 0, .string ⟨#[]⟩, .int .i64 0, .bool false, .string ⟨#[]⟩, .slice none 0 0, .slice none 0 0, .bool false] 31)).setRow w8.heap.size (vH (t3.z : Int) 2 (t3.u : Int) t3.r ⟨t3.h.toArray⟩ t3.p) = w9 at *
  obtain ⟨G3, hg⟩ : ∃ g, w8.heap.size = g := ⟨_, rfl⟩
  rw [hg] at HM
  rw [hg]
  clear hg
  clear HK8 HJ8
  have hkk := HK9.out
  have hjj := HJ9.out
  go_wp2_with (first | (refine St.go_ldg (x := .tmp 6) 31 hkk undV rfl infV (vH_size _ _ _ _ _ _) (by rfl) rfl rfl ?_) | (refine St.go_ldg (x := .tmp 7) 31 hjj undV rfl infV (vH_size _ _ _ _ _ _) (by rfl) rfl rfl ?_))
  refine (samev_any _ _ _ _ _ _ w9).mono ?_
  rintro e' w10 ⟨rfl, hb⟩
  have HL10 := Lib.hid (HL9.out.trans (hb.mono HL9.out.size))
  have k2' : w10.cell? ⟨G, 2, none⟩ = some (.int .i64 (t2.u : Int)) := by rw [hb.cell (p := ⟨G, 2, none⟩) HK9.out.lt, HK9.out.cell]; rfl
  have l0' : w10.cell? ⟨G3, 0, none⟩ = some (.int .i64 0) := by rw [hb.cell (p := ⟨G3, 0, none⟩) HM.out.lt, HM.out.cell]; show some (Value.int .i64 (t3.z : Int)) = _; rw [HP3.out]; rfl
  have l2' : w10.cell? ⟨G3, 2, none⟩ = some (.int .i64 (v : Int)) := by rw [hb.cell (p := ⟨G3, 2, none⟩) HM.out.lt, HM.out.cell]; show some (Value.int .i64 (t3.u : Int)) = _; rw [HU3.out]
  have ev : ((v : Int) == (v : Int)) = true := beq_self_eq_true _
  clear hb hkk hjj HK9 HJ9 HM HL9
  go_wp2_with fail
  go_ret
  exact ⟨rfl, HL10.out⟩

set_option maxRecDepth 100000 in
set_option linter.unusedVariables false in
theorem lifted (os : Os) (started : os.Started) (H : Type) (enc : TypeId × Value → H) :
    ReturnsInHanded {} Tryz.checked os 5 .any (fun w args => (Rows.httppeekKnownSpec.pre enc Tryz.prog Tryz.f5 [] false w args ∧ laidMetH Tryz.prog laid5 w) ∧ sizedMet enc Tryz.prog Tryz.f5 (OpenSpec.ofChange Rows.httppeekKnownSpec) false w args)
      (Rows.httppeekKnownSpec.post enc Tryz.prog Tryz.f5 false true false false) := by
  refine returns_laid (C := Tryz.checked) (X := fun w _ => laidMetH Tryz.prog laid5 w) (fun _ _ _ hh h => h.of_heap hh) own started (by kernel_rfl) Tryz.func5
    (ChangeSpec.witness_shaped (enc := enc) (C := Tryz.checked) (os := os) (X := fun w _ => laidMetH Tryz.prog laid5 w) false (World.laidAll Tryz.prog os laid5) #[.slice none 0 0, .slice none 0 0] 8 (World.laidAll_os _ _ _)
      (World.shaped_of_ZipB (by kernel_rfl) (by kernel_rfl)) (by kernel_rfl) (by kernel_rfl) (by kernel_rfl) (door_met5 os _)) ?_
  intro W base args ds gs before hval0 hW hL hshp
  have hE := env_of5 hL hshp
  have hval : ∀ (j : Nat) t v, Tryz.f5.params[j]? = some t → args[j]? = some v → Value.okWide Tryz.prog W .any base t v := hval0
  have hW' := hW
  obtain ⟨p, q, hA0, hV, rfl, hfz, hnd⟩ := hW
  have hA : DataW.TrodAll enc Tryz.prog W 0 (fun _ => true) true Tryz.f5.params.toList args.toList ds p := hA0
  rw [Tryz.params5] at hA hval
  obtain ⟨v0, vs0, d0, ds0, p0, q0, hargs, rfl, rfl, h0, r0⟩ := trodAll_cons hA
  obtain ⟨v1, vs1, d1, ds1, p1, q1, rfl, rfl, rfl, h1, r1⟩ := trodAll_cons r0
  obtain ⟨rfl, rfl, rfl⟩ := trodAll_nil r1
  obtain rfl : args = #[v0, v1] := by cases args; simp_all
  obtain ⟨rfl, rfl⟩ := trodVars_none hV
  have k0 := h0
  have lt0 : ∀ x ∈ p0, x.block < W.heap.size := by obtain ⟨m, hm⟩ := k0; exact DataW.trod_lt m _ _ _ hm
  obtain ⟨A0, n0, cap0, xs0, rfl, le0, mx0, src0⟩ := open_bytes (hval 0 22 v0 rfl rfl) h0
  have k1 := h1
  have lt1 : ∀ x ∈ p1, x.block < W.heap.size := by obtain ⟨m, hm⟩ := k1; exact DataW.trod_lt m _ _ _ hm
  obtain ⟨A1, n1, cap1, xs1, rfl, le1, mx1, src1⟩ := open_bytes (hval 1 22 v1 rfl rfl) h1
  clear hA0 hval0
  refine (walk W A0 n0 cap0 xs0 le0 mx0 src0 A1 n1 cap1 xs1 le1 mx1 src1 hE).mono fun e W' ⟨he, bel⟩ => ?_
  subst he
  exact ⟨_, rfl, _, _, _, [], _, [], hW', trodAll_mk1 (shut_bool Tryz.underlying4 _), (trodAll_cons_mk (Below.trod Lift.laidOut (by kernel_rfl) (of_decide_eq_true (by kernel_rfl)) k0 bel lt0) (trodAll_cons_mk (Below.trod Lift.laidOut (by kernel_rfl) (of_decide_eq_true (by kernel_rfl)) k1 bel lt1) trodAll_mk0)), rfl, bel.frame _, fun h => by cases h⟩

theorem over : Rows.httppeekKnownRow.holds Tryz.pinned (OpenSpec.ofChange Rows.httppeekKnownSpec) :=
  OpenClaim.holds_of_wide 5 Tryz.f5 rfl rfl rfl rfl rfl rfl rfl ⟨rfl, rfl, rfl, rfl, rfl⟩ rfl rfl rfl rfl rfl (by kernel_rfl) Tryz.func5 (by kernel_rfl)
    (of_decide_eq_true (by kernel_rfl)) (by unfold Func.isWrapper; first | (rw [if_pos (by decide +kernel)]; kernel_rfl) | (rw [if_neg (by decide +kernel)]; exact ⟨rfl, rfl⟩))
    (fun os started H enc _ => lifted os started H enc)

theorem proved : Rows.HttppeekKnownCardSaid :=
  Claim7.holds_tied_plain_at .later [] [.data, .data, .data, .data, .pinned] true (true, "dfae010f2981ed81a80978e863881a0f4d162522d3e968cd557793b55fa30f83") false
    over (fun _ h => by cases h) (by kernel_rfl) (fun _ h => by cases h) httppeekKnown_row_tie rfl ⟨rfl, rfl⟩ (by kernel_rfl) rfl
    (fun f fn hf hfn => by
      obtain rfl : f = 5 := Option.some.inj ((show Tryz.prog.funcNamed "hagioscope/hagioscopelaw16.HttppeekKnown" = some 5 by kernel_rfl).symm.trans hf) |>.symm
      obtain rfl : fn = Tryz.f5 := (Option.some.inj (Tryz.func5.symm.trans hfn)).symm
      exact ⟨by kernel_rfl, fun j t ht => by
        rw [Tryz.params5] at ht
        have hm : t ∈ [22, 22] := by simpa using Array.mem_of_getElem? ht
        have hall : ([22, 22].all fun u => !Tryz.prog.wantsStandIn u) = true := by kernel_rfl
        exact (show Tryz.prog.wantsStandIn t = false by simpa using List.all_eq_true.1 hall t hm)⟩)
    (by kernel_rfl)
#print axioms proved
end Go.Proofs.YtgbhnjkigjecmaaGreatDoor.httppeekKnown
