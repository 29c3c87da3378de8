/-
  'How bodies are wrapped' (hagioscopelaw08.ShakeWraps) holds: whatever the bytes, the call returns true and leaves what was there as it was. No condition.
-/
import Derived.Test.YtjbcdagkjonlfaaShSmall
import Derived.Test.YtjbcdagkjonlfaaShWrapR
import Derived.Test.YtjbcdagkjonlfaaLift
namespace Go.Proofs.Ytjbcdagkjonlfaa.shakeWraps
open Go.ChangeShapes Go.WideShapes Go.ChangeAt Go.RowKit
open Go.ChangeMaps (open_string shut_string)
open Go.Proofs.Ytjbcdagkjonlfaa.Wd Go.Proofs.Ytjbcdagkjonlfaa.Sh Go.Proofs.Ytjbcdagkjonlfaa.Lift

theorem walk_out (w : World) (A : Option Addr) (n cap : Nat) (hc : n ≤ 9223372036854775807) (h : 70000 < n) :
    Calls Try.prog 4 #[.slice A n cap] w fun e w' => e = .returned (.bool true) ∧ Below w.heap.size w w' := by
  have h1 : (70000 : Int) < (n : Int) := by omega
  clear h
  go_enter Try.func4, Try.ntmps4
  go_wp2_with fail
  refine (small_any w).mono ?_
  rintro e w1 ⟨rfl, hb1⟩
  have HB1 := Lib.hid hb1
  clear hb1
  go_wp2_with fail
  go_ret
  exact ⟨rfl, HB1.out⟩
theorem walk_no (w : World) (A : Option Addr) (n cap : Nat) (hn : 16384 < n) (h : n ≤ 70000) :
    Calls Try.prog 4 #[.slice A n cap] w fun e w' => e = .returned (.bool true) ∧ Below w.heap.size w w' := by
  have h1 : (n : Int) ≤ 70000 := by omega
  go_enter Try.func4, Try.ntmps4
  go_wp2_with fail
  refine (small_any w).mono ?_
  rintro e w1 ⟨rfl, hb1⟩
  have HB1 := Lib.hid hb1
  clear hb1
  go_wp2_with fail
  refine (wrap_no A n cap w1 hn (by omega)).mono ?_
  rintro e w2 ⟨rfl, rfl⟩
  go_wp2_with fail
  refine (rwrap_no A n cap _ hn (by omega)).mono ?_
  rintro e w2 ⟨rfl, rfl⟩
  have k1 := con8 (c := 0) (Src.nil w1)
  go_wp2_with fail
  go_ret
  exact ⟨rfl, HB1.out⟩
theorem walk_yes (w : World) (A : Option Addr) (n cap : Nat) (xs : List UInt8) (hs : Src w A n xs) (hn : n ≤ 16384) :
    Calls Try.prog 4 #[.slice A n cap] w fun e w' => e = .returned (.bool true) ∧ Below w.heap.size w w' := by
  have h1 : (n : Int) ≤ 70000 := by omega
  have HL := Lib.hid (show (wrapS xs).length = n + 4 from by rw [wrapS_len, hs.1])
  go_enter Try.func4, Try.ntmps4
  go_wp2_with fail
  refine (small_any w).mono ?_
  rintro e w1 ⟨rfl, hb1⟩
  have HB1 := Lib.hid hb1
  have HS1 := Lib.hid (hs.below hb1)
  clear hb1 hs
  go_wp2_with fail
  refine (wrap_yes A n cap xs w1 HS1.out hn).mono ?_
  rintro e w2 ⟨q, rfl, hq, -, hb⟩
  have HB2 := Lib.hid (HB1.out.trans (hb.mono HB1.out.size))
  have HS2 := Lib.hid (HS1.out.below hb)
  have HQ2 := Lib.hid (show Src w2 (some ⟨q, 0, none⟩) (wrapS xs).length (wrapS xs) from Src.of_blk hq (fun j c hj => by simpa using cellsOf_get hj))
  clear hq hb HB1 HS1
  go_wp2_with fail
  refine (rwrap_yes A n cap xs w2 HS2.out hn).mono ?_
  rintro e w3 ⟨v, rfl, hO, hb⟩
  have HB3 := Lib.hid (HB2.out.trans (hb.mono HB2.out.size))
  have HQ3 := Lib.hid (HQ2.out.below hb)
  obtain ⟨A3, c3, rfl, -, hs3, -⟩ := hO.cut_
  rw [HL.out] at HQ3 hs3
  rw [HL.out]
  have k1 := con8 (c := n + 4) HQ3.out
  have k2 := con8 (c := c3) hs3
  generalize (⟨(wrapS xs).toArray⟩ : ByteArray) = s at *
  clear hO hb hs3 HB2 HS2 HQ2
  go_wp2_with fail
  go_ret
  exact ⟨by simp, HB3.out⟩

theorem walk (W : World) (A : Option Addr) (n cap : Nat) (xs : List UInt8) (h1 : n ≤ cap) (h2 : cap ≤ maxLen) (hs : Src W A n xs) :
    Calls Try.prog 4 #[.slice A n cap] W fun e w' => e = .returned (.bool true) ∧ Below W.heap.size W w' := by
  unfold maxLen at h2
  by_cases h : 70000 < n
  · exact walk_out W A n cap (by omega) h
  · by_cases h' : 16384 < n
    · exact walk_no W A n cap h' (by omega)
    · exact walk_yes W A n cap xs hs (by omega)

set_option maxRecDepth 100000 in
set_option linter.unusedVariables false in
theorem lifted (os : Os) (started : os.Started) (H : Type) (enc : TypeId × Value → H) :
    ReturnsInHanded {} Try.checked os 4 .any (Rows.shakeWrapsSpec.pre6 enc Try.prog Try.f4 Rows.shakeWrapsRow.domain false) (Rows.shakeWrapsSpec.post enc Try.prog Try.f4 false true false false) := by
  refine returnsInHanded_of_change (C := Try.checked) own started (by kernel_rfl) Try.func4
    (ChangeSpec.witness6 (enc := enc) (C := Try.checked) false ⟨#[], #[.slice none 0 0], []⟩ 8 (by kernel_rfl) (by kernel_rfl) (by kernel_rfl) (by kernel_rfl)) ?_
  intro W base args ds gs before hval0 hW hcnd _
  have hval : ∀ (j : Nat) t v, Try.f4.params[j]? = some t → args[j]? = some v → Value.okWide Try.prog W .any base t v := hval0
  have hW' := hW
  obtain ⟨p, q, hA0, hV, rfl, hfz, hnd⟩ := hW
  have hA : DataW.TrodAll enc Try.prog W 0 (fun _ => true) true Try.f4.params.toList args.toList ds p := hA0
  rw [Try.params4] at hA hval
  obtain ⟨v0, vs0, d0, ds0, p0, q0, hargs, rfl, rfl, h0, r0⟩ := trodAll_cons hA
  obtain ⟨rfl, rfl, rfl⟩ := trodAll_nil r0
  obtain rfl : args = #[v0] := by cases args; simp_all
  obtain ⟨rfl, rfl⟩ := trodVars_none hV
  have k0 := h0
  have lt0 : ∀ x ∈ p0, x.block < W.heap.size := by obtain ⟨m, hm⟩ := k0; exact DataW.trod_lt m _ _ _ hm
  obtain ⟨A0, n0, cap0, xs0, rfl, le0, mx0, src0⟩ := open_bytes (hval 0 22 v0 rfl rfl) h0
  clear hA0 hval0
  refine (walk W A0 n0 cap0 xs0 le0 mx0 src0).mono fun e W' ⟨he, bel⟩ => ?_
  subst he
  exact ⟨_, rfl, _, _, _, [], _, [], hW', trodAll_mk1 (shut_bool Try.underlying4 _), (trodAll_cons_mk (Below.trod laidOut (by kernel_rfl) (of_decide_eq_true (by kernel_rfl)) k0 bel lt0) trodAll_mk0), rfl, bel.frame _, fun h => by cases h⟩

theorem over : Rows.shakeWrapsRow.holds Try.pinned (OpenSpec.ofChange Rows.shakeWrapsSpec) :=
  OpenClaim.holds_of_wide 4 Try.f4 rfl rfl rfl rfl rfl rfl rfl ⟨rfl, rfl, rfl, rfl, rfl⟩ rfl rfl rfl rfl rfl (by kernel_rfl) Try.func4 (by kernel_rfl)
    (of_decide_eq_true (by kernel_rfl)) (by unfold Func.isWrapper; first | (rw [if_pos (by decide +kernel)]; kernel_rfl) | (rw [if_neg (by decide +kernel)]; exact ⟨rfl, rfl⟩))
    (fun os started H enc _ => lifted os started H enc)

theorem proved : Rows.ShakeWrapsSaid := over
#print axioms proved
end Go.Proofs.Ytjbcdagkjonlfaa.shakeWraps
