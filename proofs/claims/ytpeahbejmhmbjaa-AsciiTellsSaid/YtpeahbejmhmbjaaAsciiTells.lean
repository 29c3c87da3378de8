/-
  The law AsciiTells holds: whatever the two strings, the call returns true and leaves what was there as it was. No condition.
-/
import Derived.Test.YtpeahbejmhmbjaaRefAsc3
import Derived.Test.YtpeahbejmhmbjaaLift
namespace Go.Proofs.Ytpeahbejmhmbjaa.asciiTells
open Go.ChangeShapes Go.WideShapes Go.ChangeAt Go.RowKit
open Go.ChangeMaps (open_string shut_string)
open Go.Proofs.Ytpeahbejmhmbjaa.Wd Go.Proofs.Ytpeahbejmhmbjaa.Asc Go.Proofs.Ytpeahbejmhmbjaa.Lift

theorem same_low (a b : ByteArray) : ((lowS a).toList == (lowS b).toList) = sameS a b := by
  rw [Lib.toList_data, Lib.toList_data]; rfl

set_option maxRecDepth 100000 in
set_option maxHeartbeats 4000000 in
theorem walk (w : World) (s : ByteArray) (hs : s.size ≤ maxLen) (b : ByteArray) (_hb : b.size ≤ maxLen) :
    Calls Try.prog 3 #[.string s, .string b] w fun e w' => e = .returned (.bool true) ∧ Below w.heap.size w w' := by
  have hB : Below w.heap.size w w := Below.refl _ _
  by_cases h1 : 5000 < s.size
  · go_enter Try.func3, Try.ntmps3
    go_wp2_with (go_at_call 9; refine (small_any _).mono ?_; rintro e w' ⟨rfl, hb⟩; replace hB := hB.trans (hb.mono hB.size); clear hb)
    go_ret
    exact ⟨rfl, hB⟩
  by_cases h2 : 5000 < b.size
  · go_enter Try.func3, Try.ntmps3
    go_wp2_with (go_at_call 9; refine (small_any _).mono ?_; rintro e w' ⟨rfl, hb⟩; replace hB := hB.trans (hb.mono hB.size); clear hb)
    go_ret
    exact ⟨rfl, hB⟩
  have HS := Lib.hid hs
  have hs2 : s.size ≤ 140737488355328 := by omega
  have hb2 : b.size ≤ 140737488355328 := by omega
  have HSA := Lib.hid (same_low s b)
  obtain ⟨la, HL⟩ : ∃ la, Hid (lowS s = la) := ⟨_, Lib.hid rfl⟩
  obtain ⟨lb, HLb⟩ : ∃ lb, Hid (lowS b = lb) := ⟨_, Lib.hid rfl⟩
  obtain ⟨ts, HT⟩ : ∃ ts, Hid (trimS s = ts) := ⟨_, Lib.hid rfl⟩
  have hsab : (la.toList == lb.toList) = sameS s b := by rw [← HL.out, ← HLb.out]; exact HSA.out
  have hla : (la.toList == la.toList) = true := by simp
  have hts : (ts.toList == ts.toList) = true := by simp
  clear HSA hs
  cases c1 : sameS s b <;> cases c2 : allS tokI (bs s) <;> cases c3 : allS visI (bs s)
  all_goals
    rw [c1] at hsab
    have C1 := Lib.hid c1
    have C2 := Lib.hid c2
    have C3 := Lib.hid c3
    clear c1 c2 c3
    go_enter Try.func3, Try.ntmps3
    go_wp2_with fail
    refine (small_any _).mono ?_
    rintro e w1 ⟨rfl, hb⟩; replace hB := hB.trans (hb.mono hB.size); clear hb
    go_wp2_with fail
    refine (rlowers_any _ _ hs2).mono ?_
    rintro e w2 ⟨rfl, hb⟩; replace hB := hB.trans (hb.mono hB.size); clear hb; rw [HL.out]
    go_wp2_with fail
    refine (lower_any _ _).mono ?_
    rintro e w3 ⟨rfl, hb⟩; replace hB := hB.trans (hb.mono hB.size); clear hb; rw [HL.out]
    go_wp2_with fail
    refine (same_any _ _ _).mono ?_
    rintro e w4 ⟨rfl, hb⟩; replace hB := hB.trans (hb.mono hB.size); clear hb; rw [C1.out]
    go_wp2_with fail
    refine (rlowers_any _ _ hb2).mono ?_
    rintro e w5 ⟨rfl, hb⟩; replace hB := hB.trans (hb.mono hB.size); clear hb; rw [HLb.out]
    go_wp2_with fail
    refine (token_any _ _).mono ?_
    rintro e w6 ⟨rfl, hb⟩; replace hB := hB.trans (hb.mono hB.size); clear hb; rw [C2.out]
    go_wp2_with fail
    refine (rtoken_any _ _ HS.out).mono ?_
    rintro e w7 ⟨rfl, hb⟩; replace hB := hB.trans (hb.mono hB.size); clear hb; rw [C2.out]
    go_wp2_with fail
    refine (visible_any _ _).mono ?_
    rintro e w8 ⟨rfl, hb⟩; replace hB := hB.trans (hb.mono hB.size); clear hb; rw [C3.out]
    go_wp2_with fail
    refine (rvisible_any _ _ HS.out).mono ?_
    rintro e w9 ⟨rfl, rfl⟩; rw [C3.out]
    go_wp2_with fail
    refine (trim_any _ _ hs2).mono ?_
    rintro e w10 ⟨rfl, hb⟩; replace hB := hB.trans (hb.mono hB.size); clear hb; rw [HT.out]
    go_wp2_with fail
    refine (rtrim_any _ _ hs2).mono ?_
    rintro e w11 ⟨rfl, rfl⟩; rw [HT.out]
    go_wp2_with fail
    go_ret
    exact ⟨by simp, hB⟩

set_option maxRecDepth 100000 in
set_option linter.unusedVariables false in
theorem lifted (os : Os) (started : os.Started) (H : Type) (enc : TypeId × Value → H) :
    ReturnsInHanded {} Try.checked os 3 .any (Rows.asciiTellsSpec.pre6 enc Try.prog Try.f3 Rows.asciiTellsRow.domain false) (Rows.asciiTellsSpec.post enc Try.prog Try.f3 false true false false) := by
  refine returnsInHanded_of_change (C := Try.checked) own started (by kernel_rfl) Try.func3
    (ChangeSpec.witness6 (enc := enc) (C := Try.checked) false ⟨#[], #[.string .empty, .string .empty], []⟩ 8 (by kernel_rfl) (by kernel_rfl) (by kernel_rfl) (by kernel_rfl)) ?_
  intro W base args ds gs before hval0 hW hcnd _
  have hval : ∀ (j : Nat) t v, Try.f3.params[j]? = some t → args[j]? = some v → Value.okWide Try.prog W .any base t v := hval0
  have hW' := hW
  obtain ⟨p, q, hA0, hV, rfl, hfz, hnd⟩ := hW
  have hA : DataW.TrodAll enc Try.prog W 0 (fun _ => true) true Try.f3.params.toList args.toList ds p := hA0
  rw [Try.params3] at hA hval
  obtain ⟨v0, vs0, d0, ds0, p0, q0, hargs, rfl, rfl, h0, r0⟩ := trodAll_cons hA
  obtain ⟨v1, vs1, d1, ds1, p1, q1, rfl, rfl, rfl, h1, r1⟩ := trodAll_cons r0
  obtain ⟨rfl, rfl, rfl⟩ := trodAll_nil r1
  obtain rfl : args = #[v0, v1] := by cases args; simp_all
  obtain ⟨rfl, rfl⟩ := trodVars_none hV
  have k0 := h0
  have lt0 : ∀ x ∈ p0, x.block < W.heap.size := by obtain ⟨m, hm⟩ := k0; exact DataW.trod_lt m _ _ _ hm
  obtain ⟨s0, rfl, rfl, rfl, hs0⟩ := open_string Try.underlying9 (hval 0 9 v0 rfl rfl) h0
  have k1 := h1
  have lt1 : ∀ x ∈ p1, x.block < W.heap.size := by obtain ⟨m, hm⟩ := k1; exact DataW.trod_lt m _ _ _ hm
  obtain ⟨s1, rfl, rfl, rfl, hs1⟩ := open_string Try.underlying9 (hval 1 9 v1 rfl rfl) h1
  clear hA0 hval0
  refine (walk W s0 hs0 s1 hs1).mono fun e W' ⟨he, bel⟩ => ?_
  subst he
  exact ⟨_, rfl, _, _, _, [], _, [], hW', trodAll_mk1 (shut_bool Try.underlying4 _), (trodAll_cons_mk (Below.trod laidOut (by kernel_rfl) (of_decide_eq_true (by kernel_rfl)) k0 bel lt0) (trodAll_cons_mk (Below.trod laidOut (by kernel_rfl) (of_decide_eq_true (by kernel_rfl)) k1 bel lt1) trodAll_mk0)), rfl, bel.frame _, fun h => by cases h⟩

theorem over : Rows.asciiTellsRow.holds Try.pinned (OpenSpec.ofChange Rows.asciiTellsSpec) :=
  OpenClaim.holds_of_wide 3 Try.f3 rfl rfl rfl rfl rfl rfl rfl ⟨rfl, rfl, rfl, rfl, rfl⟩ rfl rfl rfl rfl rfl (by kernel_rfl) Try.func3 (by kernel_rfl)
    (of_decide_eq_true (by kernel_rfl)) (by unfold Func.isWrapper; first | (rw [if_pos (by decide +kernel)]; kernel_rfl) | (rw [if_neg (by decide +kernel)]; exact ⟨rfl, rfl⟩))
    (fun os started H enc _ => lifted os started H enc)

theorem proved : Rows.AsciiTellsSaid := over
#print axioms proved
end Go.Proofs.Ytpeahbejmhmbjaa.asciiTells
