/-
  ExtsReads: what is read of data is what the document's own answers say: any bytes. No condition.
-/
import Derived.Test.YtajmdchidmamcaaExSmall
import Derived.Test.YtajmdchidmamcaaErSee
import Derived.Test.YtajmdchidmamcaaErSame
import Derived.Test.YtajmdchidmamcaaLift
namespace Go.Proofs.Ytajmdchidmamcaa.extsReads
open Go.ChangeShapes Go.WideShapes Go.ChangeAt Go.RowKit Go.Proofs.Ytajmdchidmamcaa.Wd Go.Proofs.Ytajmdchidmamcaa.Be Go.Proofs.Ytajmdchidmamcaa.He Go.Proofs.Ytajmdchidmamcaa.Ro Go.Proofs.Ytajmdchidmamcaa.Ex Go.Proofs.Ytajmdchidmamcaa.Lift

set_option maxRecDepth 100000 in
set_option maxHeartbeats 2000000 in
theorem walk (w : World) (A : Option Addr) (n c : Nat) (xs : List UInt8) (hnc : n ≤ c) (hc : c ≤ maxLen) (hs : Src w A n xs) :
    Calls Try.prog 3 #[.slice A n c] w fun e w' => e = .returned (.bool true) ∧ Below w.heap.size w w' := by
  by_cases hbig : 3000 < n
  · have hd : (3000 : Int) < (n : Int) := by omega
    go_enter Try.func3, Try.ntmps3
    go_wp2_with fail
    refine (small_any w).mono ?_
    rintro e w1 ⟨rfl, hb1⟩
    go_wp2_with fail
    go_ret
    exact ⟨rfl, hb1⟩
  have hd : ¬ (3000 : Int) < (n : Int) := by omega
  have hcc : c ≤ 9223372036854775807 := by unfold maxLen at hc; exact hc
  have HS := Lib.hid hs
  clear hs hc
  go_enter Try.func3, Try.ntmps3
  go_wp2_with fail
  refine (small_any w).mono ?_
  rintro e w1 ⟨rfl, hb1⟩
  have HB1 := Lib.hid hb1
  clear hb1
  go_wp2_with fail
  refine (name_any A n c xs w1 (HS.out.below HB1.out) (by omega)).mono ?_
  rintro e w2 ⟨rfl, hb⟩
  have HB2 := Lib.hid (HB1.out.trans (hb.mono HB1.out.size))
  clear hb HB1
  obtain ⟨p, hp⟩ : ∃ p, nameS xs = p := ⟨_, rfl⟩
  rw [hp]
  have HP := Lib.hid hp
  clear hp
  obtain ⟨s, e1⟩ := p
  simp only
  go_wp2_with fail
  refine (rname_any A n c xs w2 (HS.out.below HB2.out) (by omega) hnc hcc).mono ?_
  rintro e w3 ⟨rfl, hb⟩
  have HB3 := Lib.hid (HB2.out.trans (hb.mono HB2.out.size))
  rw [HP.out]
  clear hb HB2
  simp only
  go_wp2_with fail
  refine (protos_any A n c xs w3 (HS.out.below HB3.out) (by omega)).mono ?_
  rintro e w4 ⟨v1, rfl, ho, hl, hb⟩
  have HB4 := Lib.hid (HB3.out.trans (hb.mono HB3.out.size))
  obtain ⟨q, hq⟩ : ∃ q, protoS xs = q := ⟨_, rfl⟩
  rw [hq] at ho hl ⊢
  have HQ := Lib.hid hq
  clear hq hb HB3
  obtain ⟨l, e2⟩ := q
  simp only at ho hl ⊢
  obtain ⟨A1, c1, rfl, _, _, hs1⟩ := ho.src fineS
  have H1 := Lib.hid hs1
  clear ho hs1
  go_wp2_with fail
  refine (rproto_any A n c xs w4 (HS.out.below HB4.out) (by omega) hnc hcc).mono ?_
  rintro e w5 ⟨v2, rfl, ho, hb⟩
  have HB5 := Lib.hid (HB4.out.trans (hb.mono HB4.out.size))
  have H1' := Lib.hid (H1.out.below hb)
  rw [HQ.out] at ho ⊢
  simp only at ho ⊢
  obtain ⟨A2, c2, rfl, _, _, hs2⟩ := ho.1.src fineS
  have H2 := Lib.hid hs2
  clear ho hs2 hb HB4 H1
  obtain ⟨ln, hln⟩ : ∃ ln, l.length = ln := ⟨_, rfl⟩
  rw [hln] at hl ⊢
  have HLn := Lib.hid hln
  clear hln
  go_wp2_with fail
  refine (vers_any A n c xs w5 (HS.out.below HB5.out) (by omega)).mono ?_
  rintro e w6 ⟨v3, rfl, ho, hl2, hb⟩
  have HB6 := Lib.hid (HB5.out.trans (hb.mono HB5.out.size))
  have H1 := Lib.hid (H1'.out.below hb)
  have H2' := Lib.hid (H2.out.below hb)
  obtain ⟨r, hr⟩ : ∃ q, verS xs = q := ⟨_, rfl⟩
  rw [hr] at ho hl2 ⊢
  have HR := Lib.hid hr
  clear hr hb HB5 H1' H2
  obtain ⟨m, e3⟩ := r
  simp only at ho hl2 ⊢
  obtain ⟨A3, c3, rfl, _, _, hs3⟩ := ho.src fineI
  have H3 := Lib.hid hs3
  clear ho hs3
  obtain ⟨mn, hmn⟩ : ∃ ln, m.length = ln := ⟨_, rfl⟩
  rw [hmn] at hl2 ⊢
  have HMn := Lib.hid hmn
  clear hmn
  go_wp2_with fail
  refine (rvers_any A n c xs w6 (HS.out.below HB6.out) (by omega) hnc hcc).mono ?_
  rintro e w7 ⟨v4, rfl, ho, hb⟩
  have HB7 := Lib.hid (HB6.out.trans (hb.mono HB6.out.size))
  have H1' := Lib.hid (H1.out.below hb)
  have H2 := Lib.hid (H2'.out.below hb)
  have H3' := Lib.hid (H3.out.below hb)
  rw [HR.out] at ho ⊢
  simp only at ho ⊢
  obtain ⟨A4, c4, rfl, _, _, hs4⟩ := ho.1.src fineI
  rw [HMn.out]
  have H4 := Lib.hid hs4
  clear ho hs4 hb HB6 H1 H2' H3
  go_wp2_with fail
  refine (rrows_any A1 A2 ln c1 c2 l w7 H1'.out H2.out HLn.out (by omega)).mono ?_
  rintro e w8 ⟨rfl, hdr⟩
  have hb := drewB hdr.out
  have HB8 := Lib.hid (HB7.out.trans (hb.mono HB7.out.size))
  have H3 := Lib.hid (H3'.out.below hb)
  have H4' := Lib.hid (H4.out.below hb)
  clear hb hdr HB7 H3' H4 H1' H2
  go_wp2_with fail
  refine (rints_any A3 A4 mn c3 c4 m w8 H3.out H4'.out HMn.out (by omega)).mono ?_
  rintro e w9 ⟨rfl, hdr⟩
  have HB9 := Lib.hid (HB8.out.trans ((drewB hdr.out).mono HB8.out.size))
  clear hdr HB8
  go_wp2_with fail
  go_ret
  exact ⟨rfl, HB9.out⟩

set_option maxRecDepth 100000 in
set_option linter.unusedVariables false in
theorem lifted (os : Os) (started : os.Started) (H : Type) (enc : TypeId × Value → H) :
    ReturnsInHanded {} Try.checked os 3 .any (Rows.extsReadsSpec.pre6 enc Try.prog Try.f3 Rows.extsReadsRow.domain false) (Rows.extsReadsSpec.post enc Try.prog Try.f3 false true false false) := by
  refine returnsInHanded_of_change (C := Try.checked) own started (by kernel_rfl) Try.func3
    (ChangeSpec.witness6 (enc := enc) (C := Try.checked) false ⟨#[], #[.slice none 0 0], []⟩ 8 (by kernel_rfl) (by kernel_rfl) (by kernel_rfl) (by kernel_rfl)) ?_
  intro W base args ds gs before hval0 hW hcnd _
  have hval : ∀ (j : Nat) t v, Try.f3.params[j]? = some t → args[j]? = some v → Value.okWide Try.prog W .any base t v := hval0
  have hW' := hW
  obtain ⟨p, q, hA0, hV, rfl, hfz, hnd⟩ := hW
  have hA : DataW.TrodAll enc Try.prog W 0 (fun _ => true) true Try.f3.params.toList args.toList ds p := hA0
  rw [Try.params3] at hA hval
  obtain ⟨v0, vs0, d0, ds0, p0, q0, hargs, rfl, rfl, h0, r0⟩ := trodAll_cons hA
  obtain ⟨rfl, rfl, rfl⟩ := trodAll_nil r0
  obtain rfl : args = #[v0] := by cases args; simp_all
  obtain ⟨rfl, rfl⟩ := trodVars_none hV
  have k0 := h0
  have lt0 : ∀ x ∈ p0, x.block < W.heap.size := by obtain ⟨m, hm⟩ := k0; exact DataW.trod_lt m _ _ _ hm
  obtain ⟨A0, n0, cap0, xs0, rfl, le0, mx0, src0⟩ := open_bytes (hval 0 22 v0 rfl rfl) h0
  clear hA0 hval0
  refine (walk W A0 n0 cap0 xs0 le0 mx0 src0).mono fun e W' ⟨he, bel⟩ => ?_
  subst he
  exact ⟨_, rfl, _, _, _, [], _, [], hW', trodAll_mk1 (shut_bool Try.underlying4 _), (trodAll_cons_mk (Below.trod laidOut (by kernel_rfl) (of_decide_eq_true (by kernel_rfl)) k0 bel lt0) trodAll_mk0), rfl, bel.frame _, fun h => by cases h⟩

theorem over : Rows.extsReadsRow.holds Try.pinned (OpenSpec.ofChange Rows.extsReadsSpec) :=
  OpenClaim.holds_of_wide 3 Try.f3 rfl rfl rfl rfl rfl rfl rfl ⟨rfl, rfl, rfl, rfl, rfl⟩ rfl rfl rfl rfl rfl (by kernel_rfl) Try.func3 (by kernel_rfl)
    (of_decide_eq_true (by kernel_rfl)) (by unfold Func.isWrapper; first | (rw [if_pos (by decide +kernel)]; kernel_rfl) | (rw [if_neg (by decide +kernel)]; exact ⟨rfl, rfl⟩))
    (fun os started H enc _ => lifted os started H enc)

theorem proved : Rows.ExtsReadsSaid := over
#print axioms proved
end Go.Proofs.Ytajmdchidmamcaa.extsReads
