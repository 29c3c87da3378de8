/-
  The law AsciiBack holds: whatever the string and the number, the call returns true and leaves what was there as it was. No condition.
-/
import Derived.Test.YtpeahbejmhmbjaaRefText
import Derived.Test.YtpeahbejmhmbjaaLift
namespace Go.Proofs.Ytpeahbejmhmbjaa.asciiBack
open Go.ChangeShapes Go.WideShapes Go.ChangeAt Go.RowKit
open Go.ChangeMaps (open_string shut_string)
open Go.Proofs.Ytpeahbejmhmbjaa.Wd Go.Proofs.Ytpeahbejmhmbjaa.Asc Go.Proofs.Ytpeahbejmhmbjaa.Lift

theorem lowB_twice (c : UInt8) : lowB (lowB c) = lowB c := by
  by_cases h : 65 ≤ c.toNat ∧ c.toNat ≤ 90
  · refine lowB_high _ ?_
    rw [lowB_great c h.1 h.2]; omega
  · rw [lowB_high c h, lowB_high c h]
theorem lowS_twice (s : ByteArray) : lowS (lowS s) = lowS s := by
  apply bs_inj
  rw [bs_low, bs_low, List.map_map]
  exact List.map_congr_left fun c _ => lowB_twice c
theorem same_low (s : ByteArray) : sameS s (lowS s) = true := by
  rw [sameS, bs_low, List.map_map]
  have : (bs s).map (lowB ∘ lowB) = (bs s).map lowB := List.map_congr_left fun c _ => lowB_twice c
  rw [this]; simp

set_option maxRecDepth 100000 in
set_option maxHeartbeats 4000000 in
theorem walk (w : World) (s : ByteArray) (hs : s.size ≤ maxLen) (n : Int) (hn : -9223372036854775808 ≤ n ∧ n ≤ 9223372036854775807) :
    Calls Try.prog 5 #[.string s, .int .i64 n] w fun e w' => e = .returned (.bool true) ∧ Below w.heap.size w w' := by
  have hB : Below w.heap.size w w := Below.refl _ _
  have HS := Lib.hid hs
  clear hs
  by_cases h1 : 3000 < s.size
  · go_enter Try.func5, Try.ntmps5
    go_wp2_with (go_at_call 9; refine (small_any _).mono ?_; rintro e w' ⟨rfl, hb⟩; replace hB := hB.trans (hb.mono hB.size); clear hb)
    go_ret
    exact ⟨rfl, hB⟩
  obtain ⟨la, HL, HW, HA, hla⟩ : ∃ la : ByteArray, Hid (lowS s = la) ∧ Hid (lowS la = la) ∧ Hid (sameS s la = true) ∧ la.size = s.size :=
    ⟨lowS s, Lib.hid rfl, Lib.hid (lowS_twice s), Lib.hid (same_low s), low_size s⟩
  obtain ⟨hn1, hn2⟩ := hn
  by_cases r1 : n < 0
  all_goals
    by_cases r2 : 999999999999999999 < n
    all_goals
      cases c1 : numS (bs s) 9223372036854775807 with
      | none =>
        have C1 := Lib.hid c1
        clear c1
        first
          | (exfalso; omega)
          | (go_enter Try.func5, Try.ntmps5
             go_wp2_with fail
             refine (small_any _).mono ?_
             rintro e w1 ⟨rfl, hb⟩; replace hB := hB.trans (hb.mono hB.size); clear hb
             go_wp2_with fail
             refine (lower_any _ _).mono ?_
             rintro e w2 ⟨rfl, hb⟩; replace hB := hB.trans (hb.mono hB.size); clear hb; rw [HL.out]
             go_wp2_with fail
             refine (lower_any _ _).mono ?_
             rintro e w3 ⟨rfl, hb⟩; replace hB := hB.trans (hb.mono hB.size); clear hb; rw [HW.out]
             go_wp2_with fail
             refine (same_any _ _ _).mono ?_
             rintro e w4 ⟨rfl, hb⟩; replace hB := hB.trans (hb.mono hB.size); clear hb; rw [HA.out]
             go_wp2_with fail
             refine (number_any _ _ _ HS.out).mono ?_
             rintro e w5 ⟨rfl, hb⟩; replace hB := hB.trans (hb.mono hB.size); clear hb; rw [C1.out, dTup]
             go_wp2_with fail
             first
               | (go_ret; exact ⟨by simp, hB⟩)
               | (obtain ⟨N, rfl⟩ : ∃ N : Nat, n = (N : Int) := ⟨n.toNat, by omega⟩
                  have hN : N ≤ 999999999999999999 := by omega
                  have E1 := Lib.hid (txt_num N hN)
                  have E2 := Lib.hid (txt_less N hN)
                  have z1 := txtS_size N
                  have Z1 : Hid ((txtS N).size ≤ maxLen) := Lib.hid (by unfold maxLen; omega)
                  refine (text_any N _ _ rfl (by omega)).mono ?_
                  rintro e w6 ⟨rfl, rfl⟩
                  go_wp2_with fail
                  refine (number_any _ _ _ Z1.out).mono ?_
                  rintro e w7 ⟨rfl, hb⟩; replace hB := hB.trans (hb.mono hB.size); clear hb; rw [bs_txt, E1.out, dTup]
                  go_wp2_with fail
                  refine (number_any _ _ _ Z1.out).mono ?_
                  rintro e w8 ⟨rfl, hb⟩; replace hB := hB.trans (hb.mono hB.size); clear hb; rw [bs_txt, E2.out, dTup]
                  go_wp2_with fail
                  go_ret
                  exact ⟨by simp, hB⟩))
      | some m =>
        obtain ⟨M, rfl, hM, hMt⟩ := num_text _ _ _ c1
        have C1 := Lib.hid c1
        have CT : Hid (txtS M = s) := Lib.hid (bs_inj hMt)
        clear c1 hMt
        first
          | (exfalso; omega)
          | (go_enter Try.func5, Try.ntmps5
             go_wp2_with fail
             refine (small_any _).mono ?_
             rintro e w1 ⟨rfl, hb⟩; replace hB := hB.trans (hb.mono hB.size); clear hb
             go_wp2_with fail
             refine (lower_any _ _).mono ?_
             rintro e w2 ⟨rfl, hb⟩; replace hB := hB.trans (hb.mono hB.size); clear hb; rw [HL.out]
             go_wp2_with fail
             refine (lower_any _ _).mono ?_
             rintro e w3 ⟨rfl, hb⟩; replace hB := hB.trans (hb.mono hB.size); clear hb; rw [HW.out]
             go_wp2_with fail
             refine (same_any _ _ _).mono ?_
             rintro e w4 ⟨rfl, hb⟩; replace hB := hB.trans (hb.mono hB.size); clear hb; rw [HA.out]
             go_wp2_with fail
             refine (number_any _ _ _ HS.out).mono ?_
             rintro e w5 ⟨rfl, hb⟩; replace hB := hB.trans (hb.mono hB.size); clear hb; rw [C1.out, dTup]
             go_wp2_with fail
             refine (text_any M _ _ rfl (by omega)).mono ?_
             rintro e w5b ⟨rfl, rfl⟩; rw [CT.out]
             go_wp2_with fail
             first
               | (go_ret; exact ⟨by simp, hB⟩)
               | (obtain ⟨N, rfl⟩ : ∃ N : Nat, n = (N : Int) := ⟨n.toNat, by omega⟩
                  have hN : N ≤ 999999999999999999 := by omega
                  have E1 := Lib.hid (txt_num N hN)
                  have E2 := Lib.hid (txt_less N hN)
                  have z1 := txtS_size N
                  have Z1 : Hid ((txtS N).size ≤ maxLen) := Lib.hid (by unfold maxLen; omega)
                  refine (text_any N _ _ rfl (by omega)).mono ?_
                  rintro e w6 ⟨rfl, rfl⟩
                  go_wp2_with fail
                  refine (number_any _ _ _ Z1.out).mono ?_
                  rintro e w7 ⟨rfl, hb⟩; replace hB := hB.trans (hb.mono hB.size); clear hb; rw [bs_txt, E1.out, dTup]
                  go_wp2_with fail
                  refine (number_any _ _ _ Z1.out).mono ?_
                  rintro e w8 ⟨rfl, hb⟩; replace hB := hB.trans (hb.mono hB.size); clear hb; rw [bs_txt, E2.out, dTup]
                  go_wp2_with fail
                  go_ret
                  exact ⟨by simp, hB⟩))

set_option maxRecDepth 100000 in
set_option linter.unusedVariables false in
theorem lifted (os : Os) (started : os.Started) (H : Type) (enc : TypeId × Value → H) :
    ReturnsInHanded {} Try.checked os 5 .any (Rows.asciiBackSpec.pre6 enc Try.prog Try.f5 Rows.asciiBackRow.domain false) (Rows.asciiBackSpec.post enc Try.prog Try.f5 false true false false) := by
  refine returnsInHanded_of_change (C := Try.checked) own started (by kernel_rfl) Try.func5
    (ChangeSpec.witness6 (enc := enc) (C := Try.checked) false ⟨#[], #[.string .empty, .int .i64 0], []⟩ 8 (by kernel_rfl) (by kernel_rfl) (by kernel_rfl) (by kernel_rfl)) ?_
  intro W base args ds gs before hval0 hW hcnd _
  have hval : ∀ (j : Nat) t v, Try.f5.params[j]? = some t → args[j]? = some v → Value.okWide Try.prog W .any base t v := hval0
  have hW' := hW
  obtain ⟨p, q, hA0, hV, rfl, hfz, hnd⟩ := hW
  have hA : DataW.TrodAll enc Try.prog W 0 (fun _ => true) true Try.f5.params.toList args.toList ds p := hA0
  rw [Try.params5] at hA hval
  obtain ⟨v0, vs0, d0, ds0, p0, q0, hargs, rfl, rfl, h0, r0⟩ := trodAll_cons hA
  obtain ⟨v1, vs1, d1, ds1, p1, q1, rfl, rfl, rfl, h1, r1⟩ := trodAll_cons r0
  obtain ⟨rfl, rfl, rfl⟩ := trodAll_nil r1
  obtain rfl : args = #[v0, v1] := by cases args; simp_all
  obtain ⟨rfl, rfl⟩ := trodVars_none hV
  have k0 := h0
  have lt0 : ∀ x ∈ p0, x.block < W.heap.size := by obtain ⟨m, hm⟩ := k0; exact DataW.trod_lt m _ _ _ hm
  obtain ⟨s0, rfl, rfl, rfl, hs0⟩ := open_string Try.underlying9 (hval 0 9 v0 rfl rfl) h0
  have k1 := h1
  have lt1 : ∀ x ∈ p1, x.block < W.heap.size := by obtain ⟨m, hm⟩ := k1; exact DataW.trod_lt m _ _ _ hm
  obtain ⟨a1, rfl, rfl, rfl, w1⟩ := open_int Try.underlying3 (hval 1 3 v1 rfl rfl) h1
  have b1 := int_of w1
  clear hA0 hval0
  refine (walk W s0 hs0 a1 b1).mono fun e W' ⟨he, bel⟩ => ?_
  subst he
  exact ⟨_, rfl, _, _, _, [], _, [], hW', trodAll_mk1 (shut_bool Try.underlying4 _), (trodAll_cons_mk (Below.trod laidOut (by kernel_rfl) (of_decide_eq_true (by kernel_rfl)) k0 bel lt0) (trodAll_cons_mk (Below.trod laidOut (by kernel_rfl) (of_decide_eq_true (by kernel_rfl)) k1 bel lt1) trodAll_mk0)), rfl, bel.frame _, fun h => by cases h⟩

theorem over : Rows.asciiBackRow.holds Try.pinned (OpenSpec.ofChange Rows.asciiBackSpec) :=
  OpenClaim.holds_of_wide 5 Try.f5 rfl rfl rfl rfl rfl rfl rfl ⟨rfl, rfl, rfl, rfl, rfl⟩ rfl rfl rfl rfl rfl (by kernel_rfl) Try.func5 (by kernel_rfl)
    (of_decide_eq_true (by kernel_rfl)) (by unfold Func.isWrapper; first | (rw [if_pos (by decide +kernel)]; kernel_rfl) | (rw [if_neg (by decide +kernel)]; exact ⟨rfl, rfl⟩))
    (fun os started H enc _ => lifted os started H enc)

theorem proved : Rows.AsciiBackSaid := over
#print axioms proved
end Go.Proofs.Ytpeahbejmhmbjaa.asciiBack
