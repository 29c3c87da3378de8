/-
  The law AsciiTokens holds: whatever the two strings, the call returns true and leaves what was there as it was. No condition.
-/
import Derived.Test.YtpeahbejmhmbjaaAscLaws
import Derived.Test.YtpeahbejmhmbjaaLift
namespace Go.Proofs.Ytpeahbejmhmbjaa.asciiTokens
open Go.ChangeShapes Go.WideShapes Go.ChangeAt Go.RowKit
open Go.ChangeMaps (open_string shut_string)
open Go.Proofs.Ytpeahbejmhmbjaa.Wd Go.Proofs.Ytpeahbejmhmbjaa.Asc Go.Proofs.Ytpeahbejmhmbjaa.Lift

set_option maxHeartbeats 4000000 in
theorem walk (w : World) (a : ByteArray) (_ha : a.size ≤ maxLen) (b : ByteArray) (_hb : b.size ≤ maxLen) :
    Calls Try.prog 6 #[.string a, .string b] w fun e w' => e = .returned (.bool true) ∧ Below w.heap.size w w' := by
  have hB : Below w.heap.size w w := Below.refl _ _
  by_cases h1 : 1000 < a.size
  · go_enter Try.func6, Try.ntmps6
    go_wp2_with (go_at_call 9; refine (small_any _).mono ?_; rintro e w' ⟨rfl, hb⟩; replace hB := hB.trans (hb.mono hB.size); clear hb)
    go_ret
    exact ⟨rfl, hB⟩
  by_cases h2 : 1000 < b.size
  · go_enter Try.func6, Try.ntmps6
    go_wp2_with (go_at_call 9; refine (small_any _).mono ?_; rintro e w' ⟨rfl, hb⟩; replace hB := hB.trans (hb.mono hB.size); clear hb)
    go_ret
    exact ⟨rfl, hB⟩
  by_cases h3 : a.size = 0
  · obtain rfl := empty_of a h3
    clear h3
    go_enter Try.func6, Try.ntmps6
    go_wp2_with (go_at_call 9; refine (small_any _).mono ?_; rintro e w' ⟨rfl, hb⟩; replace hB := hB.trans (hb.mono hB.size); clear hb)
    go_ret
    exact ⟨rfl, hB⟩
  obtain ⟨na, na2⟩ := ne_list a (by omega)
  by_cases h4 : b.size = 0
  · obtain rfl := empty_of b h4
    clear h4
    go_enter Try.func6, Try.ntmps6
    go_wp2_with (go_at_call 9; refine (small_any _).mono ?_; rintro e w' ⟨rfl, hb⟩; replace hB := hB.trans (hb.mono hB.size); clear hb)
    go_ret
    exact ⟨rfl, hB⟩
  obtain ⟨nb, nb2⟩ := ne_list b (by omega)
  have tv := tok_vis (bs a)
  have t3 := all_add tokI a b (by omega) (by omega)
  have v3 := all_add visI a b (by omega) (by omega)
  cases t1 : allS tokI (bs a) <;> cases t2 : allS tokI (bs b) <;> cases v1 : allS visI (bs a) <;> cases v2 : allS visI (bs b)
  all_goals first
    | (exfalso; rw [t1, v1] at tv; exact Bool.noConfusion (tv rfl))
    | (clear tv
       rw [t1, t2] at t3
       rw [v1, v2] at v3
       have T1 := Lib.hid t1
       have T2 := Lib.hid t2
       have T3 := Lib.hid t3
       have V1 := Lib.hid v1
       have V2 := Lib.hid v2
       have V3 := Lib.hid v3
       clear t1 t2 t3 v1 v2 v3
       go_enter Try.func6, Try.ntmps6
       go_wp2_with (first
         | (go_at_call 9; refine (small_any _).mono ?_; rintro e w' ⟨rfl, hb⟩; replace hB := hB.trans (hb.mono hB.size); clear hb)
         | (go_at_call 13; refine (token_any _ _).mono ?_; rintro e w' ⟨rfl, hb⟩; replace hB := hB.trans (hb.mono hB.size); clear hb; first | rw [T1.out] | rw [T2.out] | rw [T3.out])
         | (go_at_call 15; refine (visible_any _ _).mono ?_; rintro e w' ⟨rfl, hb⟩; replace hB := hB.trans (hb.mono hB.size); clear hb; first | rw [V1.out] | rw [V2.out] | rw [V3.out]))
       go_ret
       exact ⟨rfl, hB⟩)

set_option maxRecDepth 100000 in
set_option linter.unusedVariables false in
theorem lifted (os : Os) (started : os.Started) (H : Type) (enc : TypeId × Value → H) :
    ReturnsInHanded {} Try.checked os 6 .any (Rows.asciiTokensSpec.pre6 enc Try.prog Try.f6 Rows.asciiTokensRow.domain false) (Rows.asciiTokensSpec.post enc Try.prog Try.f6 false true false false) := by
  refine returnsInHanded_of_change (C := Try.checked) own started (by kernel_rfl) Try.func6
    (ChangeSpec.witness6 (enc := enc) (C := Try.checked) false ⟨#[], #[.string .empty, .string .empty], []⟩ 8 (by kernel_rfl) (by kernel_rfl) (by kernel_rfl) (by kernel_rfl)) ?_
  intro W base args ds gs before hval0 hW hcnd _
  have hval : ∀ (j : Nat) t v, Try.f6.params[j]? = some t → args[j]? = some v → Value.okWide Try.prog W .any base t v := hval0
  have hW' := hW
  obtain ⟨p, q, hA0, hV, rfl, hfz, hnd⟩ := hW
  have hA : DataW.TrodAll enc Try.prog W 0 (fun _ => true) true Try.f6.params.toList args.toList ds p := hA0
  rw [Try.params6] at hA hval
  obtain ⟨v0, vs0, d0, ds0, p0, q0, hargs, rfl, rfl, h0, r0⟩ := trodAll_cons hA
  obtain ⟨v1, vs1, d1, ds1, p1, q1, rfl, rfl, rfl, h1, r1⟩ := trodAll_cons r0
  obtain ⟨rfl, rfl, rfl⟩ := trodAll_nil r1
  obtain rfl : args = #[v0, v1] := by cases args; simp_all
  obtain ⟨rfl, rfl⟩ := trodVars_none hV
  have k0 := h0
  have lt0 : ∀ x ∈ p0, x.block < W.heap.size := by obtain ⟨m, hm⟩ := k0; exact DataW.trod_lt m _ _ _ hm
  obtain ⟨s0, rfl, rfl, rfl, hs0⟩ := open_string Try.underlying9 (hval 0 9 v0 rfl rfl) h0
  have k1 := h1
  have lt1 : ∀ x ∈ p1, x.block < W.heap.size := by obtain ⟨m, hm⟩ := k1; exact DataW.trod_lt m _ _ _ hm
  obtain ⟨s1, rfl, rfl, rfl, hs1⟩ := open_string Try.underlying9 (hval 1 9 v1 rfl rfl) h1
  clear hA0 hval0
  refine (walk W s0 hs0 s1 hs1).mono fun e W' ⟨he, bel⟩ => ?_
  subst he
  exact ⟨_, rfl, _, _, _, [], _, [], hW', trodAll_mk1 (shut_bool Try.underlying4 _), (trodAll_cons_mk (Below.trod laidOut (by kernel_rfl) (of_decide_eq_true (by kernel_rfl)) k0 bel lt0) (trodAll_cons_mk (Below.trod laidOut (by kernel_rfl) (of_decide_eq_true (by kernel_rfl)) k1 bel lt1) trodAll_mk0)), rfl, bel.frame _, fun h => by cases h⟩

theorem over : Rows.asciiTokensRow.holds Try.pinned (OpenSpec.ofChange Rows.asciiTokensSpec) :=
  OpenClaim.holds_of_wide 6 Try.f6 rfl rfl rfl rfl rfl rfl rfl ⟨rfl, rfl, rfl, rfl, rfl⟩ rfl rfl rfl rfl rfl (by kernel_rfl) Try.func6 (by kernel_rfl)
    (of_decide_eq_true (by kernel_rfl)) (by unfold Func.isWrapper; first | (rw [if_pos (by decide +kernel)]; kernel_rfl) | (rw [if_neg (by decide +kernel)]; exact ⟨rfl, rfl⟩))
    (fun os started H enc _ => lifted os started H enc)

theorem proved : Rows.AsciiTokensSaid := over
#print axioms proved
end Go.Proofs.Ytpeahbejmhmbjaa.asciiTokens
