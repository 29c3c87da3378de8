/-
  ExtsMore: data of which some is missing, or behind which more stands, is none: of protocols, and versions. No condition.
-/
import Derived.Test.YtajmdchidmamcaaExSmall
import Derived.Test.YtajmdchidmamcaaExPut
import Derived.Test.YtajmdchidmamcaaExBackP
import Derived.Test.YtajmdchidmamcaaExLift
import Derived.Deep.Cut
import Derived.Deep.CutRange
namespace Go.Proofs.Ytajmdchidmamcaa.extsMore
open Go.ChangeShapes Go.WideShapes Go.ChangeAt Go.RowKit Go.Proofs.Ytajmdchidmamcaa.Wd Go.Proofs.Ytajmdchidmamcaa.Be Go.Proofs.Ytajmdchidmamcaa.He Go.Proofs.Ytajmdchidmamcaa.Ro Go.Proofs.Ytajmdchidmamcaa.Ex Go.Proofs.Ytajmdchidmamcaa.Lift

set_option maxRecDepth 100000 in
set_option maxHeartbeats 1500000 in
theorem walk (w : World) (A1 : Option Addr) (n1 k1 : Nat) (l : List (List UInt8)) (_ : n1 ≤ k1) (_ : k1 ≤ maxLen) (hl : SrcE w elS A1 l ∧ l.length = n1 ∧ ∀ x ∈ l, x.length ≤ 9223372036854775807)
    (A2 : Option Addr) (n2 k2 : Nat) (v : List Int) (_ : n2 ≤ k2) (_ : k2 ≤ maxLen) (hv : SrcE w elI A2 v ∧ v.length = n2)
    (cut : Int) (hcut : -9223372036854775808 ≤ cut ∧ cut ≤ 9223372036854775807) (A3 : Option Addr) (n3 k3 : Nat) (more : List UInt8) (_ : n3 ≤ k3) (_ : k3 ≤ maxLen) (hm : Src w A3 n3 more) :
    Calls Try.prog 7 #[.slice A1 n1 k1, .slice A2 n2 k2, .int .i64 cut, .slice A3 n3 k3] w fun e w' => e = .returned (.bool true) ∧ Below w.heap.size w w' := by
  obtain ⟨hl1, hl2, hl3⟩ := hl
  obtain ⟨hv1, hv2⟩ := hv
  have HS := Lib.hid hl1
  have HV := Lib.hid hv1
  have HLn := Lib.hid hl2
  have HVn := Lib.hid hv2
  have HK := Lib.hid hl3
  have HM := Lib.hid hm
  clear hl1 hl2 hl3 hv1 hv2 hm
  by_cases h1 : 30 < n1
  · have hd : decide ((30 : Int) < (n1 : Int)) = true := decide_eq_true (by omega)
    go_enter Try.func7, Try.ntmps7
    go_wp2_with fail
    refine (small_any w).mono ?_
    rintro e w1 ⟨rfl, hb1⟩
    go_wp2_with fail
    go_ret
    exact ⟨rfl, hb1⟩
  have hd1 : decide ((30 : Int) < (n1 : Int)) = false := decide_eq_false (by omega)
  by_cases h2 : 100 < n2
  · have hd : decide ((100 : Int) < (n2 : Int)) = true := decide_eq_true (by omega)
    go_enter Try.func7, Try.ntmps7
    go_wp2_with fail
    refine (small_any w).mono ?_
    rintro e w1 ⟨rfl, hb1⟩
    go_wp2_with fail
    go_ret
    exact ⟨rfl, hb1⟩
  have hd2 : decide ((100 : Int) < (n2 : Int)) = false := decide_eq_false (by omega)
  by_cases h3 : n3 = 0
  · have hd : ((n3 : Int) == 0) = true := by simp [h3]
    clear h3
    go_enter Try.func7, Try.ntmps7
    go_wp2_with fail
    refine (small_any w).mono ?_
    rintro e w1 ⟨rfl, hb1⟩
    go_wp2_with fail
    go_ret
    exact ⟨rfl, hb1⟩
  have hd3 : ((n3 : Int) == 0) = false := beq_eq_false_iff_ne.2 (by omega)
  by_cases h4 : 100 < n3
  · have hd : (100 : Int) < (n3 : Int) := by omega
    go_enter Try.func7, Try.ntmps7
    go_wp2_with fail
    refine (small_any w).mono ?_
    rintro e w1 ⟨rfl, hb1⟩
    go_wp2_with fail
    go_ret
    exact ⟨rfl, hb1⟩
  have hd4 : ¬ (100 : Int) < (n3 : Int) := by omega
  have HMne := Lib.hid (show more ≠ [] from fun h => h3 (by rw [← HM.out.1, h]; rfl))
  go_enter Try.func7, Try.ntmps7
  go_wp2_with fail
  refine (small_any w).mono ?_
  rintro e w1 ⟨rfl, hb1⟩
  have HB1 := Lib.hid hb1
  clear hb1
  go_wp2_with fail
  refine (pprotos_any A1 n1 k1 l w1 (HS.out.below HB1.out) HLn.out (by omega) HK.out).mono ?_
  rintro e w2 ⟨B1, m1, c1, rfl, hs, hmc1, hb⟩
  have HB2 := Lib.hid (HB1.out.trans (hb.mono HB1.out.size))
  obtain ⟨p1, hp⟩ : ∃ p, layS putP 2 l = p := ⟨_, rfl⟩
  have HP1 := Lib.hid hp
  rw [hp] at hs ⊢
  clear hp
  obtain ⟨b1, hbb⟩ : ∃ b, p1.isSome = b := ⟨_, rfl⟩
  rw [hbb]
  have HI1 := Lib.hid hbb
  have HS1 := Lib.hid hs
  clear hbb hs hb HB1
  go_wp2_with fail
  refine (pvers_any A2 n2 k2 v w2 (HV.out.below HB2.out) HVn.out (by omega)).mono ?_
  rintro e w3 ⟨B2, m2, c2, rfl, hs, hmc2, hb⟩
  have HB3 := Lib.hid (HB2.out.trans (hb.mono HB2.out.size))
  have HS1' := Lib.hid (HS1.out.below hb)
  obtain ⟨p2, hp⟩ : ∃ p, layS putV 1 v = p := ⟨_, rfl⟩
  have HP2 := Lib.hid hp
  rw [hp] at hs ⊢
  clear hp
  obtain ⟨b2, hbb⟩ : ∃ b, p2.isSome = b := ⟨_, rfl⟩
  rw [hbb]
  have HI2 := Lib.hid hbb
  have HS2 := Lib.hid hs
  clear hbb hs hb HB2
  clear hd1 hd2 hd3 hd4
  go_upto_if 48 with fail
  go_cut [] from 49 to 76 (fun wx => Hid (Below w3.heap.size w3 wx))
  case first =>
    cases b1 with
    | false =>
      go_wp2_with fail
      go_meet
      exact Lib.hid (Below.refl _ _)
    | true =>
      have hsome : ∃ d, p1 = some d := by
        have h := HI1.out
        cases p1 with
        | none => cases h
        | some d => exact ⟨d, rfl⟩
      obtain ⟨d, rfl⟩ := hsome
      have HD := Lib.hid (show Src w3 B1 m1 d from HS1'.out)
      have hml : m1 ≤ 70000 := by have h1 := HD.out.1; have h2 := (lay_len HP1.out).2; have e1 : (256 : Nat) ^ 2 = 65536 := rfl; have e2 : (256 : Nat) ^ 1 = 256 := rfl; rw [← h1]; omega
      have HM1 := Lib.hid (HM.out.below (HB3.out))
      have HO0 := Lib.hid (Own.empty w3 w3.heap.size (Nat.le_refl _))
      have HBe := Lib.hid ((Below.refl w3.heap.size w3).alloc (Nat.le_refl _) (.cells #[] 5))
      have HDe := Lib.hid (HD.out.below HBe.out)
      have HM1n := Lib.hid HM1.out.1
      have HDn := Lib.hid HD.out.1
      go_wp2_with (first
        | (at_builtin; refine wpList_app rfl (.tmp 50) (.tmp 51) 22 rfl und8 inf8 w3.heap.size _ [] rfl HO0.out B1 m1 c1 d rfl HDe.out (by simp; omega) (by simp) ?_; intro va wa HOa hba; have HBa := Lib.hid (HBe.out.trans hba); have HMa := Lib.hid (HM1.out.below HBa.out); clear hba)
        | (at_builtin; refine wpList_app rfl (.tmp 52) (.tmp 53) 22 rfl und8 inf8 w3.heap.size _ ([] ++ d) rfl HOa.out A3 n3 k3 more rfl HMa.out (by rw [List.nil_append, HDn.out]; omega) HBa.out.size ?_; intro vb wb HOb hbb; have HBb := Lib.hid (HBa.out.trans hbb); clear hbb; obtain ⟨Ab, cb, rfl, _, hsb⟩ := Own.src HOb.out; obtain ⟨nb, hnb⟩ : ∃ n, ([] ++ d ++ more).length = n := ⟨_, rfl⟩; rw [hnb] at hsb ⊢; have HSb := Lib.hid hsb; have HNb := Lib.hid hnb; clear hsb hnb))
      have hnbl : nb ≤ 140737488355320 := by rw [← HNb.out, List.length_append, List.nil_append, HDn.out, HM1n.out]; omega
      refine (protos_any Ab nb cb _ wb HSb.out hnbl).mono ?_
      rintro e x4 ⟨v4, rfl, _, _, hb⟩
      have HBx := Lib.hid (HBb.out.trans (hb.mono HBb.out.size))
      rw [List.nil_append, proto_more HP1.out HMne.out]
      have HD4 := Lib.hid (HD.out.below HBx.out)
      clear hb hnbl HOb HSb HBb HBa HMa HOa HBe HDe HO0 HM1
      by_cases hc0 : 0 ≤ cut
      · have hd0 : decide (0 ≤ cut) = true := decide_eq_true hc0
        obtain ⟨q, rfl⟩ := Int.eq_ofNat_of_zero_le hc0
        by_cases hq : q < m1
        · have hqi : (q : Int) < (m1 : Int) := by omega
          have hsl := slice_to (P := Try.prog) und8 siz8 B1 m1 c1 x4 q (by omega)
          have HT := Lib.hid (HD4.out.take (k := q) (by omega))
          have HE := Lib.hid (proto_cut (cut := q) HP1.out (by rw [HDn.out]; exact hq))
          go_wp2_with fail
          refine (protos_any B1 q c1 (d.take q) x4 HT.out (by omega)).mono ?_
          rintro e x5 ⟨v5, rfl, _, _, hb⟩
          rw [HE.out]
          have HBy := Lib.hid (HBx.out.trans (hb.mono HBx.out.size))
          clear hb
          go_wp2_with fail
          go_meet; exact HBy
        · have hqi : ¬ (q : Int) < (m1 : Int) := by omega
          go_wp2_with fail
          go_meet; exact HBx
      · have hd0 : decide (0 ≤ cut) = false := decide_eq_false hc0
        have hc1 : ¬ 0 ≤ cut := hc0
        go_wp2_with fail
        go_meet; exact HBx
  case rest =>
    have HW := hcut
    have HBc := Lib.hid (HB3.out.trans (HW.out.mono HB3.out.size))
    have HS2' := Lib.hid (HS2.out.below HW.out)
    cases b2 with
    | false =>
      go_wp2_with fail
      go_ret
      exact ⟨rfl, HBc.out⟩
    | true =>
      have hsome : ∃ d, p2 = some d := by
        have h := HI2.out
        cases p2 with
        | none => cases h
        | some d => exact ⟨d, rfl⟩
      obtain ⟨d, rfl⟩ := hsome
      have HD := Lib.hid (show Src wc B2 m2 d from HS2'.out)
      have hml : m2 ≤ 70000 := by have h1 := HD.out.1; have h2 := (lay_len HP2.out).2; have e1 : (256 : Nat) ^ 2 = 65536 := rfl; have e2 : (256 : Nat) ^ 1 = 256 := rfl; rw [← h1]; omega
      have HM1 := Lib.hid (HM.out.below (HBc.out))
      have HO0 := Lib.hid (Own.empty wc wc.heap.size (Nat.le_refl _))
      have HBe := Lib.hid ((Below.refl wc.heap.size wc).alloc (Nat.le_refl _) (.cells #[] 5))
      have HDe := Lib.hid (HD.out.below HBe.out)
      have HM1n := Lib.hid HM1.out.1
      have HDn := Lib.hid HD.out.1
      go_wp2_with (first
        | (at_builtin; refine wpList_app rfl (.tmp 79) (.tmp 80) 22 rfl und8 inf8 wc.heap.size _ [] rfl HO0.out B2 m2 c2 d rfl HDe.out (by simp; omega) (by simp) ?_; intro va wa HOa hba; have HBa := Lib.hid (HBe.out.trans hba); have HMa := Lib.hid (HM1.out.below HBa.out); clear hba)
        | (at_builtin; refine wpList_app rfl (.tmp 81) (.tmp 82) 22 rfl und8 inf8 wc.heap.size _ ([] ++ d) rfl HOa.out A3 n3 k3 more rfl HMa.out (by rw [List.nil_append, HDn.out]; omega) HBa.out.size ?_; intro vb wb HOb hbb; have HBb := Lib.hid (HBa.out.trans hbb); clear hbb; obtain ⟨Ab, cb, rfl, _, hsb⟩ := Own.src HOb.out; obtain ⟨nb, hnb⟩ : ∃ n, ([] ++ d ++ more).length = n := ⟨_, rfl⟩; rw [hnb] at hsb ⊢; have HSb := Lib.hid hsb; have HNb := Lib.hid hnb; clear hsb hnb))
      have hnbl : nb ≤ 140737488355320 := by rw [← HNb.out, List.length_append, List.nil_append, HDn.out, HM1n.out]; omega
      refine (vers_any Ab nb cb _ wb HSb.out hnbl).mono ?_
      rintro e x4 ⟨v4, rfl, _, _, hb⟩
      have HBx := Lib.hid (HBb.out.trans (hb.mono HBb.out.size))
      rw [List.nil_append, ver_more HP2.out HMne.out]
      have HD4 := Lib.hid (HD.out.below HBx.out)
      clear hb hnbl HOb HSb HBb HBa HMa HOa HBe HDe HO0 HM1
      by_cases hc0 : 0 ≤ cut
      · have hd0 : decide (0 ≤ cut) = true := decide_eq_true hc0
        obtain ⟨q, rfl⟩ := Int.eq_ofNat_of_zero_le hc0
        by_cases hq : q < m2
        · have hqi : (q : Int) < (m2 : Int) := by omega
          have hsl := slice_to (P := Try.prog) und8 siz8 B2 m2 c2 x4 q (by omega)
          have HT := Lib.hid (HD4.out.take (k := q) (by omega))
          have HE := Lib.hid (ver_cut (cut := q) HP2.out (by rw [HDn.out]; exact hq))
          go_wp2_with fail
          refine (vers_any B2 q c2 (d.take q) x4 HT.out (by omega)).mono ?_
          rintro e x5 ⟨v5, rfl, _, _, hb⟩
          rw [HE.out]
          have HBy := Lib.hid (HBx.out.trans (hb.mono HBx.out.size))
          clear hb
          go_wp2_with fail
          go_ret; exact ⟨rfl, HBc.out.trans (HBy.out.mono HBc.out.size)⟩
        · have hqi : ¬ (q : Int) < (m2 : Int) := by omega
          go_wp2_with fail
          go_ret; exact ⟨rfl, HBc.out.trans (HBx.out.mono HBc.out.size)⟩
      · have hd0 : decide (0 ≤ cut) = false := decide_eq_false hc0
        have hc1 : ¬ 0 ≤ cut := hc0
        go_wp2_with fail
        go_ret; exact ⟨rfl, HBc.out.trans (HBx.out.mono HBc.out.size)⟩

set_option maxRecDepth 100000 in
set_option linter.unusedVariables false in
theorem lifted (os : Os) (started : os.Started) (H : Type) (enc : TypeId × Value → H) :
    ReturnsInHanded {} Try.checked os 7 .any (Rows.extsMoreSpec.pre6 enc Try.prog Try.f7 Rows.extsMoreRow.domain false) (Rows.extsMoreSpec.post enc Try.prog Try.f7 false true false false) := by
  refine returnsInHanded_of_change (C := Try.checked) own started (by kernel_rfl) Try.func7
    (ChangeSpec.witness6 (enc := enc) (C := Try.checked) false ⟨#[], #[.slice none 0 0, .slice none 0 0, .int .i64 0, .slice none 0 0], []⟩ 8 (by kernel_rfl) (by kernel_rfl) (by kernel_rfl) (by kernel_rfl)) ?_
  intro W base args ds gs before hval0 hW hcnd _
  have hval : ∀ (j : Nat) t v, Try.f7.params[j]? = some t → args[j]? = some v → Value.okWide Try.prog W .any base t v := hval0
  have hW' := hW
  obtain ⟨p, q, hA0, hV, rfl, hfz, hnd⟩ := hW
  have hA : DataW.TrodAll enc Try.prog W 0 (fun _ => true) true Try.f7.params.toList args.toList ds p := hA0
  rw [Try.params7] at hA hval
  obtain ⟨v0, vs0, d0, ds0, p0, q0, hargs, rfl, rfl, h0, r0⟩ := trodAll_cons hA
  obtain ⟨v1, vs1, d1, ds1, p1, q1, rfl, rfl, rfl, h1, r1⟩ := trodAll_cons r0
  obtain ⟨v2, vs2, d2, ds2, p2, q2, rfl, rfl, rfl, h2, r2⟩ := trodAll_cons r1
  obtain ⟨v3, vs3, d3, ds3, p3, q3, rfl, rfl, rfl, h3, r3⟩ := trodAll_cons r2
  obtain ⟨rfl, rfl, rfl⟩ := trodAll_nil r3
  obtain rfl : args = #[v0, v1, v2, v3] := by cases args; simp_all
  obtain ⟨rfl, rfl⟩ := trodVars_none hV
  have k0 := h0
  have lt0 : ∀ x ∈ p0, x.block < W.heap.size := by obtain ⟨m, hm⟩ := k0; exact DataW.trod_lt m _ _ _ hm
  obtain ⟨A0, n0, cap0, xs0, rfl, le0, mx0, src0⟩ := open_strE (hval 0 27 v0 rfl rfl) h0
  have k1 := h1
  have lt1 : ∀ x ∈ p1, x.block < W.heap.size := by obtain ⟨m, hm⟩ := k1; exact DataW.trod_lt m _ _ _ hm
  obtain ⟨A1, n1, cap1, xs1, rfl, le1, mx1, src1⟩ := open_intE (hval 1 30 v1 rfl rfl) h1
  have k2 := h2
  have lt2 : ∀ x ∈ p2, x.block < W.heap.size := by obtain ⟨m, hm⟩ := k2; exact DataW.trod_lt m _ _ _ hm
  obtain ⟨a2, rfl, rfl, rfl, w2⟩ := open_int Try.underlying3 (hval 2 3 v2 rfl rfl) h2
  have b2 := int_of w2
  have k3 := h3
  have lt3 : ∀ x ∈ p3, x.block < W.heap.size := by obtain ⟨m, hm⟩ := k3; exact DataW.trod_lt m _ _ _ hm
  obtain ⟨A3, n3, cap3, xs3, rfl, le3, mx3, src3⟩ := open_bytes (hval 3 22 v3 rfl rfl) h3
  clear hA0 hval0
  refine (walk W A0 n0 cap0 xs0 le0 mx0 src0 A1 n1 cap1 xs1 le1 mx1 src1 a2 b2 A3 n3 cap3 xs3 le3 mx3 src3).mono fun e W' ⟨he, bel⟩ => ?_
  subst he
  exact ⟨_, rfl, _, _, _, [], _, [], hW', trodAll_mk1 (shut_bool Try.underlying4 _), (trodAll_cons_mk (Below.trod laidOut (by kernel_rfl) (of_decide_eq_true (by kernel_rfl)) k0 bel lt0) (trodAll_cons_mk (Below.trod laidOut (by kernel_rfl) (of_decide_eq_true (by kernel_rfl)) k1 bel lt1) (trodAll_cons_mk (Below.trod laidOut (by kernel_rfl) (of_decide_eq_true (by kernel_rfl)) k2 bel lt2) (trodAll_cons_mk (Below.trod laidOut (by kernel_rfl) (of_decide_eq_true (by kernel_rfl)) k3 bel lt3) trodAll_mk0)))), rfl, bel.frame _, fun h => by cases h⟩

theorem over : Rows.extsMoreRow.holds Try.pinned (OpenSpec.ofChange Rows.extsMoreSpec) :=
  OpenClaim.holds_of_wide 7 Try.f7 rfl rfl rfl rfl rfl rfl rfl ⟨rfl, rfl, rfl, rfl, rfl⟩ rfl rfl rfl rfl rfl (by kernel_rfl) Try.func7 (by kernel_rfl)
    (of_decide_eq_true (by kernel_rfl)) (by unfold Func.isWrapper; first | (rw [if_pos (by decide +kernel)]; kernel_rfl) | (rw [if_neg (by decide +kernel)]; exact ⟨rfl, rfl⟩))
    (fun os started H enc _ => lifted os started H enc)

theorem proved : Rows.ExtsMoreSaid := over
#print axioms proved
end Go.Proofs.Ytajmdchidmamcaa.extsMore
