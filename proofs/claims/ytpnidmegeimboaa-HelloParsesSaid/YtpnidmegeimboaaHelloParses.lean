/-
  'What is parsed is what the document says' (hagioscopelaw09.HelloParses) holds: whatever is handed in, the call returns true and leaves what was there as it was. No condition.
-/
import Derived.Test.YtpnidmegeimboaaHeSmall
import Derived.Test.YtpnidmegeimboaaHeLaw
import Derived.Test.YtpnidmegeimboaaHeFew
import Derived.Test.YtpnidmegeimboaaRsFind
import Derived.Test.YtpnidmegeimboaaRsParse
import Derived.Test.YtpnidmegeimboaaLiftHel
import Derived.Deep.RegionHeld
namespace Go.Proofs.Ytpnidmegeimboaa.helloParses
open Go.ChangeShapes Go.WideShapes Go.ChangeAt Go.RowKit
open Go.ChangeMaps (open_string shut_string)
open Go.Proofs.Ytpnidmegeimboaa.Wd Go.Proofs.Ytpnidmegeimboaa.Be Go.Proofs.Ytpnidmegeimboaa.He Go.Proofs.Ytpnidmegeimboaa.Lift

/-- bytes within the reach, and the bound of their room -/
theorem open_bytes_cap {H : Type} {enc : TypeId × Value → H} {W : World} {sp : Nat → Bool} {hd : Bool} {base b0 : Nat} {v : Value} {d : DataW H} {p : List MemPlace}
    (hv : Value.okWide Try.prog W .any b0 22 v) (h : DataW.Trod enc Try.prog W base sp hd 22 v d p) (hr : ∀ z ∈ d.weights Try.prog 22, z ≤ reachBytes) : ∃ A n c xs, v = .slice A n c ∧ n ≤ c ∧ n ≤ 140737488351232 ∧ Src W A n xs ∧ c ≤ 9223372036854775807 := by
  obtain ⟨A, n, c, rfl⟩ := okWide_slice Try.underlying22 hv
  obtain ⟨fuel, hf⟩ := h
  obtain ⟨A', c', xs, e, h1, h2, h3, h4⟩ := bytes_cells hf
  simp [Value.cells] at e
  obtain ⟨rfl, rfl, rfl⟩ := e
  exact ⟨_, _, _, xs, rfl, h1, h4 hr, h3, h2⟩

set_option maxRecDepth 100000 in
set_option maxHeartbeats 4000000 in
theorem walk_any (w : World) (A : Option Addr) (n cap : Nat) (xs : List UInt8) (hs : Src w A n xs) (hnc : n ≤ cap) (hcap : cap ≤ 9223372036854775807) :
    Calls Try.prog 3 #[.slice A n cap] w fun e w' => e = .returned (.bool true) ∧ Below w.heap.size w w' := by
  have HS := Lib.hid hs
  clear hs
  have HCp := Lib.hid (And.intro hnc hcap)
  clear hnc hcap
  go_enter Try.func3, Try.ntmps3
  go_wp2_with fail
  refine (small_any w).mono ?_
  rintro e w1 ⟨rfl, hb1⟩
  have HB1 := Lib.hid hb1
  have HS1 := Lib.hid (HS.out.below hb1)
  clear hb1 HS
  by_cases h5 : (n : Int) ≤ 5000
  · go_wp2_with fail
    refine (parse_any A n cap xs w1 HS1.out (by omega)).mono ?_
    rintro e w2 ⟨H, rfl, ho, hh, hb⟩
    have HB2 := Lib.hid (HB1.out.trans (hb.mono HB1.out.size))
    have HS2 := Lib.hid (HS1.out.below hb)
    have HO2 := Lib.hid ho
    have HE := Lib.hid hh
    have hr := ho.rnd
    clear hb ho hh HS1 HB1
    obtain ⟨z, hz⟩ : ∃ z, z = (parseS xs).2 := ⟨_, rfl⟩
    rw [← hz]
    have HZ := Lib.hid hz
    clear hz
    go_upto_region 5 with (refine go_st 28 (Blk.new _ _ _) infH rfl (Hv.size hr) (Hv.one _) rfl rfl rfl rfl ?_)
    rw [← zeroC]
    obtain ⟨la, hb⟩ := laid_new HO2.out
    have HA := Lib.hid la
    have HB := Lib.hid (HB2.out.trans (hb.mono HB2.out.size))
    have HS3 := Lib.hid (HS2.out.below hb)
    clear la hb HB2 HO2 HS2
    generalize (w2.alloc (.cells Hv.zero.C 28)).setRow w2.heap.size H.C = w3 at *
    generalize w2.heap.size = g at *
    clear w2 w1
    go_wp2_with fail
    refine (rparse_any A n cap xs w3 HS3.out (by omega) HCp.out.1 HCp.out.2).mono ?_
    rintro e w4 ⟨K, rfl, ho, hh, hb⟩
    have HA4 := Lib.hid (HA.out.below hb)
    have HB4 := Lib.hid (HB.out.trans (hb.mono HB.out.size))
    have HO4 := Lib.hid ho
    have HEq := Lib.hid (show H.hel = K.hel from HE.out.trans hh.symm)
    have hr4 := ho.rnd
    rw [← HZ.out]
    clear hb ho hh HS3 HB HA HE HZ HCp
    go_upto_region 6 with (refine go_st 28 (Blk.new _ _ _) infH rfl (Hv.size hr4) (Hv.one _) rfl rfl rfl rfl ?_)
    rw [← zeroC]
    obtain ⟨la, hb⟩ := laidq_new HO4.out
    have HA5 := Lib.hid (HA4.out.below hb)
    have HK5 := Lib.hid la
    have HB5 := Lib.hid (HB4.out.trans (hb.mono HB4.out.size))
    clear la hb HB4 HO4 HA4
    generalize (w4.alloc (.cells Hv.zero.C 28)).setRow w4.heap.size K.C = w5 at *
    generalize w4.heap.size = g4 at *
    clear w4
    go_wp2_with (first
      | (refine go_ld (x := .tmp 4) 28 HA5.out.blk undH rfl infH (Hv.size hr) (by rfl) rfl rfl ?_)
      | (refine go_ld (x := .tmp 6) 28 HK5.out.blk undH rfl infH (Hv.size hr4) (by rfl) rfl rfl ?_)
      | (go_at_call 12; refine (same_any H K w5 HA5.out.own.ok HK5.out.own.ok).mono ?_; rintro e w6 ⟨R, rfl, hR, hb⟩; obtain rfl : R = true := hR.2 HEq.out
         have HB6 := Lib.hid (HB5.out.trans (hb.mono HB5.out.size)); clear hR hb))
    go_ret
    exact ⟨rfl, HB6.out⟩
  · have h5' : (5000 : Int) < (n : Int) := by omega
    go_wp2_with fail
    go_ret
    exact ⟨rfl, HB1.out⟩

theorem walk (W : World) (A : Option Addr) (n cap : Nat) (xs : List UInt8) (le : n ≤ cap) (_mx : n ≤ 140737488351232) (src : Src W A n xs) (cb : cap ≤ 9223372036854775807) :
    Calls Try.prog 3 #[.slice A n cap] W fun e w' => e = .returned (.bool true) ∧ Below W.heap.size W w' :=
  walk_any W A n cap xs src le cb

set_option maxRecDepth 100000 in
set_option linter.unusedVariables false in
theorem lifted (os : Os) (started : os.Started) (H : Type) (enc : TypeId × Value → H) :
    ReturnsInHanded {} Try.checked os 3 .any (Rows.helloParsesSpec.pre6 enc Try.prog Try.f3 Rows.helloParsesRow.domain false) (Rows.helloParsesSpec.post enc Try.prog Try.f3 false true false false) := by
  refine returnsInHanded_of_change_sized (C := Try.checked) own started (by kernel_rfl) Try.func3
    (ChangeSpec.witness6 (enc := enc) (C := Try.checked) false ⟨#[], #[.slice none 0 0], []⟩ 8 (by kernel_rfl) (by kernel_rfl) (by kernel_rfl) (by kernel_rfl)) ?_
  intro W base args ds gs before hval0 hW hcnd hsz0 _
  have hval : ∀ (j : Nat) t v, Try.f3.params[j]? = some t → args[j]? = some v → Value.okWide Try.prog W .any base t v := hval0
  have hW' := hW
  obtain ⟨p, q, hA0, hV, rfl, hfz, hnd⟩ := hW
  have hA : DataW.TrodAll enc Try.prog W 0 (fun _ => true) true Try.f3.params.toList args.toList ds p := hA0
  have hsz : (DataW.weightsEach Try.prog (Try.f3.params.toList ++ Rows.helloParsesSpec.plain.varTypes Try.prog) (ds ++ gs)).all (· ≤ reachBytes) = true := hsz0
  rw [Try.params3] at hA hval hsz
  obtain ⟨v0, vs0, d0, ds0, p0, q0, hargs, rfl, rfl, h0, r0⟩ := trodAll_cons hA
  obtain ⟨rfl, rfl, rfl⟩ := trodAll_nil r0
  obtain rfl : args = #[v0] := by cases args; simp_all
  obtain ⟨rfl, rfl⟩ := trodVars_none hV
  have k0 := h0
  have lt0 : ∀ x ∈ p0, x.block < W.heap.size := by obtain ⟨m, hm⟩ := k0; exact DataW.trod_lt m _ _ _ hm
  obtain ⟨A0, n0, cap0, xs0, rfl, le0, mx0, src0, cb0⟩ := open_bytes_cap (hval 0 22 v0 rfl rfl) h0 (reach_at hsz (j := 0) (t := 22) rfl rfl)
  clear hA0 hval0 hsz0
  refine (walk W A0 n0 cap0 xs0 le0 mx0 src0 cb0).mono fun e W' ⟨he, bel⟩ => ?_
  subst he
  exact ⟨_, rfl, _, _, _, [], _, [], hW', trodAll_mk1 (shut_bool Try.underlying4 _), (trodAll_cons_mk (Below.trod laidOut (by kernel_rfl) (of_decide_eq_true (by kernel_rfl)) k0 bel lt0) trodAll_mk0), rfl, bel.frame _, fun h => by cases h⟩

theorem over : Rows.helloParsesRow.holds Try.pinned (OpenSpec.ofChange Rows.helloParsesSpec) :=
  OpenClaim.holds_of_wide 3 Try.f3 rfl rfl rfl rfl rfl rfl rfl ⟨rfl, rfl, rfl, rfl, rfl⟩ rfl rfl rfl rfl rfl (by kernel_rfl) Try.func3 (by kernel_rfl)
    (of_decide_eq_true (by kernel_rfl)) (by unfold Func.isWrapper; first | (rw [if_pos (by decide +kernel)]; kernel_rfl) | (rw [if_neg (by decide +kernel)]; exact ⟨rfl, rfl⟩))
    (fun os started H enc _ => lifted os started H enc)

theorem proved : Rows.HelloParsesSaid := over
#print axioms proved
end Go.Proofs.Ytpnidmegeimboaa.helloParses
