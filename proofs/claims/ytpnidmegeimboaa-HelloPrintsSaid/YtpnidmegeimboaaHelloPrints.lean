/-
  'What is printed, and what is found, is what the document says' (hagioscopelaw09.HelloPrints) holds: whatever is handed in, the call returns true and leaves what was there as it was. No condition.
-/
import Derived.Test.YtpnidmegeimboaaHeSmall
import Derived.Test.YtpnidmegeimboaaHeLaw
import Derived.Test.YtpnidmegeimboaaHeFew
import Derived.Test.YtpnidmegeimboaaRsFind
import Derived.Test.YtpnidmegeimboaaRsParse
import Derived.Test.YtpnidmegeimboaaLiftHel
import Derived.Deep.RegionHeld
namespace Go.Proofs.Ytpnidmegeimboaa.helloPrints
open Go.ChangeShapes Go.WideShapes Go.ChangeAt Go.RowKit
open Go.ChangeMaps (open_string shut_string)
open Go.Proofs.Ytpnidmegeimboaa.Wd Go.Proofs.Ytpnidmegeimboaa.Be Go.Proofs.Ytpnidmegeimboaa.He Go.Proofs.Ytpnidmegeimboaa.Lift

set_option maxRecDepth 100000 in
set_option maxHeartbeats 4000000 in
theorem walk_any (w : World) (H : Hv) (hH : H.Ok w) (kind : Int) :
    Calls Try.prog 4 #[.agg H.C, .int .i64 kind] w fun e w' => e = .returned (.bool true) ∧ Below w.heap.size w w' := by
  have HH := Lib.hid hH
  have hr := hH.rnd
  clear hH
  go_enter Try.func4, Try.ntmps4
  go_upto_region 1 with fail
  have HK := Lib.hid (Blk.new w 28 H.C)
  have HB := Lib.hid ((Below.refl w.heap.size w).alloc (Nat.le_refl _) (.cells H.C 28))
  generalize w.alloc (.cells H.C 28) = w1 at *
  obtain ⟨g, hg⟩ : ∃ g, g = w.heap.size := ⟨_, rfl⟩
  rw [← hg]
  rw [← hg] at HK
  clear hg
  go_wp2_with fail
  refine (small_any w1).mono ?_
  rintro e w2 ⟨rfl, hb⟩
  replace HK := Lib.hid (HK.out.below hb HK.out.lt)
  replace HB := Lib.hid (HB.out.trans (hb.mono HB.out.size))
  clear hb w1
  go_wp2_with (refine go_ld (x := .tmp 2) 28 HK.out undH rfl infH (Hv.size hr) rfl rfl rfl ?_)
  refine (few_any H w2 (HH.out.below HB.out)).mono ?_
  rintro e w3 ⟨rfl, hb⟩
  replace HK := Lib.hid (HK.out.below hb HK.out.lt)
  replace HB := Lib.hid (HB.out.trans (hb.mono HB.out.size))
  clear hb w2
  cases hf : fewH H with
  | false =>
    go_wp2_with fail
    go_ret
    exact ⟨rfl, HB.out⟩
  | true =>
    have HSh := Lib.hid (few_short hf)
    have HFe := Lib.hid (few_is hf)
    clear hf
    go_wp2_with (refine go_ld (x := .tmp 2) 28 HK.out undH rfl infH (Hv.size hr) rfl rfl rfl ?_)
    refine (print_any H w3 (HH.out.below HB.out) HSh.out).mono ?_
    rintro e w4 ⟨p4, c4, rfl, ha, -, hb⟩
    replace HK := Lib.hid (HK.out.below hb HK.out.lt)
    replace HB := Lib.hid (HB.out.trans (hb.mono HB.out.size))
    have HS4 := Lib.hid ha.src.2
    clear ha hb w3 HSh
    go_wp2_with (refine go_ld (x := .tmp 2) 28 HK.out undH rfl infH (Hv.size hr) rfl rfl rfl ?_)
    refine (rprint_any H w4 (HH.out.below HB.out) HFe.out.2 HFe.out.1).mono ?_
    rintro e w5 ⟨A5, n5, c5, rfl, hs, hb⟩
    replace HK := Lib.hid (HK.out.below hb HK.out.lt)
    replace HB := Lib.hid (HB.out.trans (hb.mono HB.out.size))
    replace HS4 := Lib.hid (HS4.out.below hb)
    have HS5 := Lib.hid hs
    clear hs hb w4 HFe
    generalize printS H.hel = P at *
    go_wp2_with (refine go_ld (x := .tmp 2) 28 HK.out undH rfl infH (Hv.size hr) rfl rfl rfl ?_)
    refine (find_any H kind w5 (HH.out.below HB.out)).mono ?_
    intro e w6 hq
    obtain ⟨A6, n6, c6, rfl, hs, -, hb⟩ := find_of (x := (findL H.hel.exts kind).1) (z := (findL H.hel.exts kind).2) rfl hq
    replace HK := Lib.hid (HK.out.below hb HK.out.lt)
    replace HB := Lib.hid (HB.out.trans (hb.mono HB.out.size))
    replace HS4 := Lib.hid (HS4.out.below hb)
    replace HS5 := Lib.hid (HS5.out.below hb)
    have HS6 := Lib.hid hs
    clear hq hs hb w5
    go_wp2_with (refine go_ld (x := .tmp 2) 28 HK.out undH rfl infH (Hv.size hr) rfl rfl rfl ?_)
    refine (rfind_any H kind w6 (HH.out.below HB.out)).mono ?_
    rintro e w7 ⟨A7, n7, c7, rfl, hs, hb⟩
    replace HB := Lib.hid (HB.out.trans (hb.mono HB.out.size))
    replace HS4 := Lib.hid (HS4.out.below hb)
    replace HS5 := Lib.hid (HS5.out.below hb)
    replace HS6 := Lib.hid (HS6.out.below hb)
    have k4 := con8 (c := c4) HS4.out
    have k5 := con8 (c := c5) HS5.out
    have k6 := con8 (c := c6) HS6.out
    have k7 := con8 (c := c7) hs
    clear hs hb HK w6 HS4 HS5 HS6
    obtain ⟨P1, P2⟩ := P
    generalize findL H.hel.exts kind = F at *
    obtain ⟨F1, F2⟩ := F
    generalize P1.length = n4 at *
    generalize (⟨P1.toArray⟩ : ByteArray) = sp at *
    generalize (⟨F1.toArray⟩ : ByteArray) = sf at *
    go_wp2_with fail
    go_ret
    exact ⟨rfl, HB.out⟩

theorem walk (W : World) (H : Hv) (ok : H.Ok W) (a : Int) (_b : -9223372036854775808 ≤ a ∧ a ≤ 9223372036854775807) :
    Calls Try.prog 4 #[.agg H.C, .int .i64 a] W fun e w' => e = .returned (.bool true) ∧ Below W.heap.size W w' :=
  walk_any W H ok a

set_option maxRecDepth 100000 in
set_option linter.unusedVariables false in
theorem lifted (os : Os) (started : os.Started) (H : Type) (enc : TypeId × Value → H) :
    ReturnsInHanded {} Try.checked os 4 .any (Rows.helloPrintsSpec.pre6 enc Try.prog Try.f4 Rows.helloPrintsRow.domain false) (Rows.helloPrintsSpec.post enc Try.prog Try.f4 false true false false) := by
  refine returnsInHanded_of_change_sized (C := Try.checked) own started (by kernel_rfl) Try.func4
    (ChangeSpec.witness6 (enc := enc) (C := Try.checked) false ⟨#[], #[.agg #[.int .i64 0, .int .u8 0, .int .u8 0, .int .u8 0, .int .u8 0, .int .u8 0, .int .u8 0, .int .u8 0, .int .u8 0, .int .u8 0, .int .u8 0, .int .u8 0, .int .u8 0, .int .u8 0, .int .u8 0, .int .u8 0, .int .u8 0, .int .u8 0, .int .u8 0, .int .u8 0, .int .u8 0, .int .u8 0, .int .u8 0, .int .u8 0, .int .u8 0, .int .u8 0, .int .u8 0, .int .u8 0, .int .u8 0, .int .u8 0, .int .u8 0, .int .u8 0, .int .u8 0, .slice none 0 0, .slice none 0 0, .slice none 0 0, .bool false, .slice none 0 0], .int .i64 0], []⟩ 8 (by kernel_rfl) (by kernel_rfl) (by kernel_rfl) (by kernel_rfl)) ?_
  intro W base args ds gs before hval0 hW hcnd hsz0 _
  have hval : ∀ (j : Nat) t v, Try.f4.params[j]? = some t → args[j]? = some v → Value.okWide Try.prog W .any base t v := hval0
  have hW' := hW
  obtain ⟨p, q, hA0, hV, rfl, hfz, hnd⟩ := hW
  have hA : DataW.TrodAll enc Try.prog W 0 (fun _ => true) true Try.f4.params.toList args.toList ds p := hA0
  have hsz : (DataW.weightsEach Try.prog (Try.f4.params.toList ++ Rows.helloPrintsSpec.plain.varTypes Try.prog) (ds ++ gs)).all (· ≤ reachBytes) = true := hsz0
  rw [Try.params4] at hA hval hsz
  obtain ⟨v0, vs0, d0, ds0, p0, q0, hargs, rfl, rfl, h0, r0⟩ := trodAll_cons hA
  obtain ⟨v1, vs1, d1, ds1, p1, q1, rfl, rfl, rfl, h1, r1⟩ := trodAll_cons r0
  obtain ⟨rfl, rfl, rfl⟩ := trodAll_nil r1
  obtain rfl : args = #[v0, v1] := by cases args; simp_all
  obtain ⟨rfl, rfl⟩ := trodVars_none hV
  have k0 := h0
  have lt0 : ∀ x ∈ p0, x.block < W.heap.size := by obtain ⟨m, hm⟩ := k0; exact DataW.trod_lt m _ _ _ hm
  obtain ⟨a0, ok0, rfl⟩ := open_hello (hval 0 28 v0 rfl rfl) h0 (reach_at hsz (j := 0) (t := 28) rfl rfl)
  have k1 := h1
  have lt1 : ∀ x ∈ p1, x.block < W.heap.size := by obtain ⟨m, hm⟩ := k1; exact DataW.trod_lt m _ _ _ hm
  obtain ⟨a1, rfl, rfl, rfl, w1⟩ := open_int Try.underlying3 (hval 1 3 v1 rfl rfl) h1
  have b1 := int_of w1
  clear hA0 hval0 hsz0
  refine (walk W a0 ok0 a1 b1).mono fun e W' ⟨he, bel⟩ => ?_
  subst he
  exact ⟨_, rfl, _, _, _, [], _, [], hW', trodAll_mk1 (shut_bool Try.underlying4 _), (trodAll_cons_mk (Below.trod laidOut (by kernel_rfl) (of_decide_eq_true (by kernel_rfl)) k0 bel lt0) (trodAll_cons_mk (Below.trod laidOut (by kernel_rfl) (of_decide_eq_true (by kernel_rfl)) k1 bel lt1) trodAll_mk0)), rfl, bel.frame _, fun h => by cases h⟩

theorem over : Rows.helloPrintsRow.holds Try.pinned (OpenSpec.ofChange Rows.helloPrintsSpec) :=
  OpenClaim.holds_of_wide 4 Try.f4 rfl rfl rfl rfl rfl rfl rfl ⟨rfl, rfl, rfl, rfl, rfl⟩ rfl rfl rfl rfl rfl (by kernel_rfl) Try.func4 (by kernel_rfl)
    (of_decide_eq_true (by kernel_rfl)) (by unfold Func.isWrapper; first | (rw [if_pos (by decide +kernel)]; kernel_rfl) | (rw [if_neg (by decide +kernel)]; exact ⟨rfl, rfl⟩))
    (fun os started H enc _ => lifted os started H enc)

theorem proved : Rows.HelloPrintsSaid := over
#print axioms proved
end Go.Proofs.Ytpnidmegeimboaa.helloPrints
