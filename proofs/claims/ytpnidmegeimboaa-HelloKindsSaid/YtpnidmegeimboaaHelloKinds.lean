/-
  'Extensions are found by their kinds, each one, and no kind is there twice' (hagioscopelaw09.HelloKinds) holds: whatever the bytes and the kind, the call returns true and leaves what was there as it was. No condition.
-/
import Derived.Test.YtpnidmegeimboaaHeSmall
import Derived.Test.YtpnidmegeimboaaHeLaw
import Derived.Test.YtpnidmegeimboaaLiftHel
import Derived.Deep.RegionHeld
import Derived.Deep.RegionHeldLaw
import Derived.BigQuiet
namespace Go.Proofs.Ytpnidmegeimboaa.helloKinds
open Go.ChangeShapes Go.WideShapes Go.ChangeAt Go.RowKit
open Go.ChangeMaps (open_string shut_string)
open Go.Proofs.Ytpnidmegeimboaa.Wd Go.Proofs.Ytpnidmegeimboaa.Be Go.Proofs.Ytpnidmegeimboaa.He Go.Proofs.Ytpnidmegeimboaa.Lift

set_option maxRecDepth 100000 in
set_option maxHeartbeats 4000000 in
theorem walk_any (w : World) (A : Option Addr) (n cap : Nat) (xs : List UInt8) (kind : Int) (hs : Src w A n xs) (hn : n ≤ 140737488351232) :
    Calls Try.prog 7 #[.slice A n cap, .int .i64 kind] w fun e w' => e = .returned (.bool true) ∧ Below w.heap.size w w' := by
  have HS := Lib.hid hs
  clear hs
  go_enter Try.func7, Try.ntmps7
  go_wp2_with fail
  refine (small_any w).mono ?_
  rintro e w1 ⟨rfl, hb1⟩
  have HB1 := Lib.hid hb1
  have HS1 := Lib.hid (HS.out.below hb1)
  clear hb1 HS
  go_wp2_with fail
  refine (parse_any A n cap xs w1 HS1.out (by omega)).mono ?_
  rintro e w2 ⟨H, rfl, ho, hh, hb⟩
  have HB2 := Lib.hid (HB1.out.trans (hb.mono HB1.out.size))
  have HO2 := Lib.hid ho
  have HH := Lib.hid hh
  have hr := ho.rnd
  clear hb ho hh HS1 HB1
  obtain ⟨z, hz⟩ : ∃ z, z = (parseS xs).2 := ⟨_, rfl⟩
  rw [← hz]
  have HZ := Lib.hid hz
  clear hz
  go_upto_region 3 with (refine go_st 28 (Blk.new _ _ _) infH rfl (Hv.size hr) (Hv.one _) rfl rfl rfl rfl ?_)
  rw [← zeroC]
  obtain ⟨la, hb⟩ := laid_new HO2.out
  have HA := Lib.hid la
  have HB := Lib.hid (HB2.out.trans (hb.mono HB2.out.size))
  clear la hb HB2 HO2
  generalize (w2.alloc (.cells Hv.zero.C 28)).setRow w2.heap.size H.C = w3 at *
  generalize w2.heap.size = g at *
  clear w2 w1
  by_cases hz0 : z = 0
  · subst hz0
    by_cases h3 : (n : Int) ≤ 3000
    · have hrt := (lay_parse HZ.out.symm).1
      rw [← HH.out] at hrt
      have HNd := Lib.hid (wrong_ok.1 hrt.2).2.2.2
      clear hrt HZ HH
      obtain ⟨m, hm⟩ : ∃ m, m = H.xs.length := ⟨_, rfl⟩
      have HM := Lib.hid hm
      have hx1 := HA.out.own.ok.x1
      rw [← hm] at hx1
      clear hm
      go_wp2_with fail
      go_loopw [8, 9] (fun c i wr => ∃ k, k ≤ m ∧ c = .int .i64 (cntX (H.xs.take k) kind : Int) ∧ i = .int .i64 (k : Int) ∧ Hid (HAt wr g H) ∧ Hid (Below w.heap.size w wr)) (fun _ i _ => m - (intOf i).toNat)
      case atStart => exact ⟨0, Nat.zero_le _, rfl, rfl, HA, HB⟩
      case round =>
        clear HA HB
        obtain ⟨k, hk, rfl, rfl, HA, HB⟩ := hrel
        have hcx := cell_xs HA.out.blk hr
        rw [← HM.out] at hcx
        by_cases hlt : k < m
        · have hki : (k : Int) < (m : Int) := by omega
          obtain ⟨x, hx⟩ : ∃ x, H.xs[k]? = some x := ⟨_, List.getElem?_eq_getElem (by have := HM.out; omega)⟩
          obtain ⟨hok, gx, o, hXA, hgw, h0, h1⟩ := HA.out.own.ok.xs k x hx
          rw [hXA] at hcx
          have HF := Lib.hid (show findL H.hel.exts x.kind = (x.b, true) from findL_at (l := H.hel.exts) HNd.out (k := k) (x := ext x) (by show (H.xs.map ext)[k]? = _; rw [List.getElem?_map, hx]; rfl))
          have HOk := Lib.hid hok
          have HC := Lib.hid (cntX_go hx kind)
          have hsmall := hok.small
          have hle := cntX_le H.xs k kind
          rw [← HM.out] at hle
          have HR := Lib.hid (show wr.rangeAt g 0 H.L from rangeH HA.out.blk)
          clear hok hx hXA
          go_upto_region 9 with fail
          have hi := HOk.out.k1
          have hL : (Try.prog.info? 28).map (·.size) = some H.L.length := by rw [L_len hr]; exact infH
          have HXs := Lib.hid hcx
          have HK0 := Lib.hid h0
          have HK1 := Lib.hid h1
          clear h0 h1 hcx
          refine wp_region_held_drew (S := fun w' => w'.rangeAt g 0 H.L ∧ w'.cell? ⟨g, 37, none⟩ = some (.slice (some ⟨gx, o, none⟩) m H.xc) ∧ w'.cell? ⟨gx, o + k * 2, none⟩ = some (.int .i64 x.kind)) (by kernel_rfl) ⟨HR.out, HXs.out, HK0.out⟩ (fun hS => ?_)
          refine hd_take 0 (some 36) (.agg H.C) rfl rfl (by kernel_rfl) (by kernel_rfl) (by kernel_rfl) (fun _ _ _ h => h) (yieldsIf_load_mid (by rfl) _ _ rfl g 0 rfl H.L _ (fun _ h => h.1) undH rfl hL) hS ?_
          simp only [Act.put, List.setIfInBounds_toArray, List.set_cons_zero, List.set_cons_succ]
          refine hd_take 1 (some 37) (.pointer (some ⟨g, 37, none⟩)) rfl rfl (by kernel_rfl) (by kernel_rfl) (by kernel_rfl) (fun _ _ _ h => h) (Or.inl ⟨by rfl, fun w hw => by go_simp⟩) hS ?_
          simp only [Act.put, List.setIfInBounds_toArray, List.set_cons_zero, List.set_cons_succ]
          refine hd_take 2 (some 38) (.slice (some ⟨gx, o, none⟩) m H.xc) rfl rfl (by kernel_rfl) (by kernel_rfl) (by kernel_rfl) (fun _ _ _ h => h) (Or.inl ⟨by rfl, fun w hw => by have hx := hw.2.1; go_simp⟩) hS ?_
          simp only [Act.put, List.setIfInBounds_toArray, List.set_cons_zero, List.set_cons_succ]
          refine hd_take 3 (some 39) (.int .i64 (k : Int)) rfl rfl (by kernel_rfl) (by kernel_rfl) (by kernel_rfl) (fun _ _ _ h => h) (Or.inl ⟨by rfl, fun w hw => by go_simp⟩) hS ?_
          simp only [Act.put, List.setIfInBounds_toArray, List.set_cons_zero, List.set_cons_succ]
          refine hd_take 4 (some 40) (.pointer (some ⟨gx, o + k * 2, none⟩)) rfl rfl (by kernel_rfl) (by kernel_rfl) (by kernel_rfl) (fun _ _ _ h => h) (Or.inl ⟨by rfl, fun w hw => by go_simp⟩) hS ?_
          simp only [Act.put, List.setIfInBounds_toArray, List.set_cons_zero, List.set_cons_succ]
          refine hd_take 5 (some 41) (.pointer (some ⟨gx, o + k * 2, none⟩)) rfl rfl (by kernel_rfl) (by kernel_rfl) (by kernel_rfl) (fun _ _ _ h => h) (Or.inl ⟨by rfl, fun w hw => by go_simp⟩) hS ?_
          simp only [Act.put, List.setIfInBounds_toArray, List.set_cons_zero, List.set_cons_succ]
          refine hd_take 6 (some 42) (.int .i64 x.kind) rfl rfl (by kernel_rfl) (by kernel_rfl) (by kernel_rfl) (fun _ _ _ h => h) (Or.inl ⟨by rfl, fun w hw => by have hx := hw.2.2; go_simp⟩) hS ?_
          simp only [Act.put, List.setIfInBounds_toArray, List.set_cons_zero, List.set_cons_succ]
          refine wpAnyH_ready (rs := [7]) (by kernel_rfl) (by simp) (AllReadyH.cons rfl (fun K hK => ?_) AllReadyH.nil)
          go_simp
          have HA1 := Lib.hid (HA.out.below (Below.refl _ _).drew)
          refine (find_any H x.kind wr.drew HA1.out.own.ok).mono ?_
          intro e w4 hq
          obtain ⟨A7, n7, c7, rfl, hs7, -, hb⟩ := find_of (x := x.b) (z := true) HF.out hq
          have HB4 := Lib.hid (HB.out.trans ((Below.refl _ _).drew.trans hb |>.mono HB.out.size))
          have HA4 := Lib.hid (HA1.out.below hb)
          have hbx : Below wr.heap.size wr w4 := (Below.refl _ _).drew.trans hb
          have HOk4 := Lib.hid (HOk.out.below hbx)
          have hcx := cell_xs HA4.out.blk hr
          rw [← HM.out] at hcx
          have hXA : H.xA = some ⟨gx, o, none⟩ := by
            have e := HXs.out.symm.trans (cell_xs HA.out.blk hr)
            injection e with e
            injection e with e
            exact e.symm
          rw [hXA] at hcx
          have h0 := (hbx.cell (p := ⟨gx, _, none⟩) hgw).trans HK0.out
          have h1 := (hbx.cell (p := ⟨gx, _, none⟩) hgw).trans HK1.out
          have HS7 := Lib.hid hs7
          refine hK.out _ _ ⟨rangeH HA4.out.blk, hcx, h0⟩ (fun h2 => ?_)
          clear hK K hb hbx hq HA HB HA1 HOk HK0 HK1 HXs HR hs7 hXA hL
          refine hd_take 8 (some 35) (.tuple #[.slice A7 n7 c7, .bool true]) rfl rfl (by kernel_rfl) (by kernel_rfl) (by kernel_rfl) (fun _ _ _ h => h) (Or.inl ⟨by rfl, fun w hw => by go_simp⟩) h2 ?_
          simp only [Act.put, List.setIfInBounds_toArray, List.set_cons_zero, List.set_cons_succ]
          refine hd_take 9 (some 44) (.slice A7 n7 c7) rfl rfl (by kernel_rfl) (by kernel_rfl) (by kernel_rfl) (fun _ _ _ h => h) (Or.inl ⟨by rfl, fun w hw => by go_simp⟩) h2 ?_
          simp only [Act.put, List.setIfInBounds_toArray, List.set_cons_zero, List.set_cons_succ]
          refine hd_take 10 (some 45) (.bool true) rfl rfl (by kernel_rfl) (by kernel_rfl) (by kernel_rfl) (fun _ _ _ h => h) (Or.inl ⟨by rfl, fun w hw => by go_simp⟩) h2 ?_
          simp only [Act.put, List.setIfInBounds_toArray, List.set_cons_zero, List.set_cons_succ]
          refine hd_take 11 (some 10) (.slice A7 n7 c7) rfl rfl (by kernel_rfl) (by kernel_rfl) (by kernel_rfl) (fun _ _ _ h => h) (Or.inl ⟨by rfl, fun w hw => by go_simp⟩) h2 ?_
          simp only [Act.put, List.setIfInBounds_toArray, List.set_cons_zero, List.set_cons_succ]
          refine hd_take 12 (some 11) (.bool true) rfl rfl (by kernel_rfl) (by kernel_rfl) (by kernel_rfl) (fun _ _ _ h => h) (Or.inl ⟨by rfl, fun w hw => by go_simp⟩) h2 ?_
          simp only [Act.put, List.setIfInBounds_toArray, List.set_cons_zero, List.set_cons_succ]
          refine wpAnyH_done (by kernel_rfl) ?_ _
          clear h2 hS
          have kd := fun j => con8 (c := c7) (show Src (w4.drewN j) A7 n7 x.b from HS7.out)
          have kx := fun j => con8 (c := x.c) (show Src (w4.drewN j) x.A x.n x.b from HOk4.out.src)
          generalize (⟨x.b.toArray⟩ : ByteArray) = sx at *
          have kd0 := kd 0
          have kx0 := kx 0
          go_upto_region 10 with fail
          go_quiet (fail)
          clear kd kx HS7 kd0 kx0
          have hdr : Below w4.heap.size w4 (w4.drewN nq) := ((But.refl [] w4).drewN nq).below (by simp) (Nat.le_refl _)
          replace HA4 := Lib.hid (HA4.out.below hdr)
          replace HB4 := Lib.hid (HB4.out.trans (hdr.mono HB4.out.size))
          replace hcx : (w4.drewN nq).cell? ⟨g, 37, none⟩ = _ := hcx
          replace h0 : (w4.drewN nq).cell? ⟨gx, o + k * 2, none⟩ = _ := h0
          clear hdr h1 HOk4
          generalize w4.drewN nq = w6 at *
          clear w4
          by_cases hkd : x.kind = kind
          · have hkb : (x.kind == kind) = true := by simpa using hkd
            have HC2 := Lib.hid (show cntX (H.xs.take (k + 1)) kind = cntX (H.xs.take k) kind + 1 by rw [HC.out, if_pos hkd])
            clear hkd HC
            go_wp2_with fail
            go_roundw
            case rel => exact ⟨k + 1, by omega, by rw [HC2.out]; go_num, by go_num, HA4, HB4⟩
            case measure => simp [intOf]; omega
          · have hkb : (x.kind == kind) = false := by simpa using hkd
            have HC2 := Lib.hid (show cntX (H.xs.take (k + 1)) kind = cntX (H.xs.take k) kind by rw [HC.out, if_neg hkd]; rfl)
            clear hkd HC
            go_wp2_with fail
            go_roundw
            case rel => exact ⟨k + 1, by omega, by rw [HC2.out], by go_num, HA4, HB4⟩
            case measure => simp [intOf]; omega
        · obtain rfl : k = m := by omega
          have hT : H.xs.take k = H.xs := by rw [HM.out]; exact List.take_length
          rw [hT]
          clear hT
          obtain ⟨hc1, hc2⟩ := cntX_tell HNd.out kind
          go_upto_region 14 with fail
          clear hcx
          go_wp2_with (refine go_ld 28 HA.out.blk undH rfl infH (Hv.size hr) rfl rfl rfl ?_)
          refine (find_any H kind wr HA.out.own.ok).mono ?_
          intro e w5 hq
          obtain ⟨A9, n9, c9, rfl, -, -, hb⟩ := find_of (x := (findL H.hel.exts kind).1) (z := decide (cntX H.xs kind = 1)) (by rw [← hc2]; rfl) hq
          have HB5 := Lib.hid (HB.out.trans (hb.mono HB.out.size))
          clear hq hb hc2 HA HB
          generalize cntX H.xs kind = c at *
          rcases (show c = 0 ∨ c = 1 by omega) with rfl | rfl
          · rw [show decide ((0 : Nat) = 1) = false from rfl]
            go_wp2_with fail
            go_ret
            exact ⟨rfl, HB5.out⟩
          · rw [show decide ((1 : Nat) = 1) = true from rfl]
            go_wp2_with fail
            go_ret
            exact ⟨rfl, HB5.out⟩
    · have h3' : (3000 : Int) < (n : Int) := by omega
      go_wp2_with fail
      go_ret
      exact ⟨rfl, HB.out⟩
  · have hz1 : (z != 0) = true := by simpa using hz0
    go_wp2_with fail
    go_ret
    exact ⟨rfl, HB.out⟩

theorem walk (W : World) (A : Option Addr) (n cap : Nat) (xs : List UInt8) (_le : n ≤ cap) (mx : n ≤ 140737488351232) (src : Src W A n xs) (a : Int) (_b : -9223372036854775808 ≤ a ∧ a ≤ 9223372036854775807) :
    Calls Try.prog 7 #[.slice A n cap, .int .i64 a] W fun e w' => e = .returned (.bool true) ∧ Below W.heap.size W w' :=
  walk_any W A n cap xs a src mx

set_option maxRecDepth 100000 in
set_option linter.unusedVariables false in
theorem lifted (os : Os) (started : os.Started) (H : Type) (enc : TypeId × Value → H) :
    ReturnsInHanded {} Try.checked os 7 .any (Rows.helloKindsSpec.pre6 enc Try.prog Try.f7 Rows.helloKindsRow.domain false) (Rows.helloKindsSpec.post enc Try.prog Try.f7 false true false false) := by
  refine returnsInHanded_of_change_sized (C := Try.checked) own started (by kernel_rfl) Try.func7
    (ChangeSpec.witness6 (enc := enc) (C := Try.checked) false ⟨#[], #[.slice none 0 0, .int .i64 0], []⟩ 8 (by kernel_rfl) (by kernel_rfl) (by kernel_rfl) (by kernel_rfl)) ?_
  intro W base args ds gs before hval0 hW hcnd hsz0 _
  have hval : ∀ (j : Nat) t v, Try.f7.params[j]? = some t → args[j]? = some v → Value.okWide Try.prog W .any base t v := hval0
  have hW' := hW
  obtain ⟨p, q, hA0, hV, rfl, hfz, hnd⟩ := hW
  have hA : DataW.TrodAll enc Try.prog W 0 (fun _ => true) true Try.f7.params.toList args.toList ds p := hA0
  have hsz : (DataW.weightsEach Try.prog (Try.f7.params.toList ++ Rows.helloKindsSpec.plain.varTypes Try.prog) (ds ++ gs)).all (· ≤ reachBytes) = true := hsz0
  rw [Try.params7] at hA hval hsz
  obtain ⟨v0, vs0, d0, ds0, p0, q0, hargs, rfl, rfl, h0, r0⟩ := trodAll_cons hA
  obtain ⟨v1, vs1, d1, ds1, p1, q1, rfl, rfl, rfl, h1, r1⟩ := trodAll_cons r0
  obtain ⟨rfl, rfl, rfl⟩ := trodAll_nil r1
  obtain rfl : args = #[v0, v1] := by cases args; simp_all
  obtain ⟨rfl, rfl⟩ := trodVars_none hV
  have k0 := h0
  have lt0 : ∀ x ∈ p0, x.block < W.heap.size := by obtain ⟨m, hm⟩ := k0; exact DataW.trod_lt m _ _ _ hm
  obtain ⟨A0, n0, cap0, xs0, rfl, le0, mx0, src0⟩ := open_bytes_sized (hval 0 22 v0 rfl rfl) h0 (reach_at hsz (j := 0) (t := 22) rfl rfl)
  have k1 := h1
  have lt1 : ∀ x ∈ p1, x.block < W.heap.size := by obtain ⟨m, hm⟩ := k1; exact DataW.trod_lt m _ _ _ hm
  obtain ⟨a1, rfl, rfl, rfl, w1⟩ := open_int Try.underlying3 (hval 1 3 v1 rfl rfl) h1
  have b1 := int_of w1
  clear hA0 hval0 hsz0
  refine (walk W A0 n0 cap0 xs0 le0 mx0 src0 a1 b1).mono fun e W' ⟨he, bel⟩ => ?_
  subst he
  exact ⟨_, rfl, _, _, _, [], _, [], hW', trodAll_mk1 (shut_bool Try.underlying4 _), (trodAll_cons_mk (Below.trod laidOut (by kernel_rfl) (of_decide_eq_true (by kernel_rfl)) k0 bel lt0) (trodAll_cons_mk (Below.trod laidOut (by kernel_rfl) (of_decide_eq_true (by kernel_rfl)) k1 bel lt1) trodAll_mk0)), rfl, bel.frame _, fun h => by cases h⟩

theorem over : Rows.helloKindsRow.holds Try.pinned (OpenSpec.ofChange Rows.helloKindsSpec) :=
  OpenClaim.holds_of_wide 7 Try.f7 rfl rfl rfl rfl rfl rfl rfl ⟨rfl, rfl, rfl, rfl, rfl⟩ rfl rfl rfl rfl rfl (by kernel_rfl) Try.func7 (by kernel_rfl)
    (of_decide_eq_true (by kernel_rfl)) (by unfold Func.isWrapper; first | (rw [if_pos (by decide +kernel)]; kernel_rfl) | (rw [if_neg (by decide +kernel)]; exact ⟨rfl, rfl⟩))
    (fun os started H enc _ => lifted os started H enc)

theorem proved : Rows.HelloKindsSaid := over
#print axioms proved
end Go.Proofs.Ytpnidmegeimboaa.helloKinds
