/-
  'An error stays, and it is known of a type at the first byte, and of a number that is too great at the first byte of it that tells so' (hagioscopelaw08.ShakeWrong) holds: whatever the four bytes, the call returns true and leaves what was there as it was. No condition.
-/
import Derived.Test.YtjbcdagkjonlfaaShSmall
import Derived.Test.YtjbcdagkjonlfaaLift
namespace Go.Proofs.Ytjbcdagkjonlfaa.shakeWrong
open Go.ChangeShapes Go.WideShapes Go.ChangeAt Go.RowKit
open Go.ChangeMaps (open_string shut_string)
open Go.Proofs.Ytjbcdagkjonlfaa.Wd Go.Proofs.Ytjbcdagkjonlfaa.Sh Go.Proofs.Ytjbcdagkjonlfaa.Lift

/-- the errors behind each of the first four bytes, and one more -/
theorem errs (a b c d : UInt8) :
    (a.toNat ≠ 1 ∧ (runM M.st [a]).e = 4 ∧ (runM M.st [a, b]).e = 4 ∧ (runM M.st [a, b, c]).e = 4 ∧ (runM M.st [a, b, c, d]).e = 4 ∧ (runM M.st [a, b, c, d, 1]).e = 4) ∨
    (a.toNat = 1 ∧ 0 < b.toNat ∧ (runM M.st [a]).e = 0 ∧ (runM M.st [a, b]).e = 6 ∧ (runM M.st [a, b, c]).e = 6 ∧ (runM M.st [a, b, c, d]).e = 6 ∧ (runM M.st [a, b, c, d, 1]).e = 6) ∨
    (a.toNat = 1 ∧ b.toNat = 0 ∧ 64 < c.toNat ∧ (runM M.st [a]).e = 0 ∧ (runM M.st [a, b]).e = 0 ∧ (runM M.st [a, b, c]).e = 6 ∧ (runM M.st [a, b, c, d]).e = 6 ∧ (runM M.st [a, b, c, d, 1]).e = 6) ∨
    (a.toNat = 1 ∧ b.toNat = 0 ∧ c.toNat ≤ 64 ∧ 16384 < c.toNat * 256 + d.toNat ∧ (runM M.st [a]).e = 0 ∧ (runM M.st [a, b]).e = 0 ∧ (runM M.st [a, b, c]).e = 0 ∧ (runM M.st [a, b, c, d]).e = 6 ∧ (runM M.st [a, b, c, d, 1]).e = 6) ∨
    (a.toNat = 1 ∧ b.toNat = 0 ∧ c.toNat ≤ 64 ∧ c.toNat * 256 + d.toNat ≤ 16384 ∧ (runM M.st [a]).e = 0 ∧ (runM M.st [a, b]).e = 0 ∧ (runM M.st [a, b, c]).e = 0 ∧ (runM M.st [a, b, c, d]).e = 0 ∧ (runM M.st [a, b, c, d, 1]).e = 0) := by
  simp only [runM_cons, runM_nil]
  by_cases ha : a.toNat = 1
  · have s1 : stepM M.st a = ⟨1, 0, [], 0⟩ := by unfold stepM M.st; simp [ha]
    rw [s1]
    right
    by_cases hb : 0 < b.toNat
    · have s2 : stepM ⟨1, 0, [], 0⟩ b = ⟨1, b.toNat * 65536, [], 6⟩ := by unfold stepM; simp only; rw [if_neg (by simp), if_neg (by simp), if_pos trivial, if_neg (by omega)]
      left
      rw [s2, stepM_bad (by simp), stepM_bad (by simp), stepM_bad (by simp)]
      exact ⟨ha, hb, rfl, rfl, rfl, rfl, rfl⟩
    · have hb : b.toNat = 0 := by omega
      have s2 : stepM ⟨1, 0, [], 0⟩ b = ⟨2, 0, [], 0⟩ := by unfold stepM; simp [hb]
      rw [s2]
      right
      by_cases hc : 64 < c.toNat
      · have s3 : stepM ⟨2, 0, [], 0⟩ c = ⟨2, c.toNat * 256, [], 6⟩ := by unfold stepM; simp only; rw [if_neg (by simp), if_neg (by simp), if_neg (by simp), if_pos trivial, if_neg (by omega)]
        left
        rw [s3, stepM_bad (by simp), stepM_bad (by simp)]
        exact ⟨ha, hb, hc, rfl, rfl, rfl, rfl, rfl⟩
      · have hc : c.toNat ≤ 64 := by omega
        have s3 : stepM ⟨2, 0, [], 0⟩ c = ⟨3, c.toNat * 256, [], 0⟩ := by unfold stepM; simp only; rw [if_neg (by simp), if_neg (by simp), if_neg (by simp), if_pos trivial, if_pos (by omega)]
        rw [s3]
        right
        by_cases hd : 16384 < c.toNat * 256 + d.toNat
        · have s4 : stepM ⟨3, c.toNat * 256, [], 0⟩ d = ⟨3, c.toNat * 256 + d.toNat, [], 6⟩ := by unfold stepM; simp only; rw [if_neg (by simp), if_neg (by simp), if_neg (by simp), if_neg (by simp), if_pos trivial, if_neg (by omega)]
          left
          rw [s4, stepM_bad (by simp)]
          exact ⟨ha, hb, hc, hd, rfl, rfl, rfl, rfl, rfl⟩
        · have s4 : stepM ⟨3, c.toNat * 256, [], 0⟩ d = ⟨4, c.toNat * 256 + d.toNat, [], 0⟩ := by unfold stepM; simp only; rw [if_neg (by simp), if_neg (by simp), if_neg (by simp), if_neg (by simp), if_pos trivial, if_pos (by omega)]
          right
          rw [s4]
          refine ⟨ha, hb, hc, by omega, rfl, rfl, rfl, rfl, ?_⟩
          by_cases h0 : 0 < c.toNat * 256 + d.toNat
          · rw [stepM_body rfl rfl (by exact h0)]
          · rw [stepM_done rfl (by show c.toNat * 256 + d.toNat ≤ 0; omega)]
  · have s1 : stepM M.st a = ⟨0, 0, [], 4⟩ := by unfold stepM M.st; simp [ha]
    left
    rw [s1, stepM_bad (by simp), stepM_bad (by simp), stepM_bad (by simp), stepM_bad (by simp)]
    exact ⟨ha, rfl, rfl, rfl, rfl, rfl⟩

set_option maxRecDepth 100000 in
set_option maxHeartbeats 2000000 in
theorem walk (w : World) (a b c d : UInt8) :
    Calls Try.prog 7 #[.int .u8 (a.toNat : Int), .int .u8 (b.toNat : Int), .int .u8 (c.toNat : Int), .int .u8 (d.toNat : Int)] w fun e w' => e = .returned (.bool true) ∧ Below w.heap.size w w' := by
  have HE := Lib.hid (errs a b c d)
  have ha := a.toNat_lt
  have hb := b.toNat_lt
  have hc := c.toNat_lt
  have hd := d.toNat_lt
  have HT := Lib.hid (fun (m : M) (x : UInt8) {B : Nat} {a : World} {g : Nat} {p : Option Nat} (h : Kept B w a g p m) => take_kept h x)
  go_enter Try.func7, Try.ntmps7
  go_wp2_with fail
  refine (small_any w).mono ?_
  rintro e w1 ⟨rfl, hb1⟩
  go_wp2_with fail
  refine (new_kept w w1 hb1 hb1.size).mono ?_
  rintro e w2 ⟨g, rfl, hk, -, -⟩
  have HK := Lib.hid hk
  clear hk hb1
  have HA := Lib.hid (show ∀ xs : List UInt8, ∀ x : UInt8, stepM (runM M.st xs) x = runM M.st (xs ++ [x]) from fun xs x => by rw [runM_app]; rfl)
  have hwb : IntKind.i64.wrap (b.toNat : Int) = (b.toNat : Int) := IntWalk.i64_in _ (by omega)
  go_wp2_with fail
  refine (take_kept (m := runM M.st []) HK.out a).mono ?_
  rintro e w3 ⟨rfl, p3, hk, -, -⟩
  rw [HA.out, show ([] : List UInt8) ++ [a] = [a] from rfl] at hk
  rw [HA.out, show ([] : List UInt8) ++ [a] = [a] from rfl]
  replace HK := Lib.hid hk
  clear hk
  go_wp2_with fail
  refine (take_kept HK.out b).mono ?_
  rintro e w4 ⟨rfl, p4, hk, -, -⟩
  rw [HA.out, show [a] ++ [b] = [a, b] from rfl] at hk
  rw [HA.out, show [a] ++ [b] = [a, b] from rfl]
  replace HK := Lib.hid hk
  clear hk
  go_wp2_with fail
  refine (take_kept HK.out c).mono ?_
  rintro e w5 ⟨rfl, p5, hk, -, -⟩
  rw [HA.out, show [a, b] ++ [c] = [a, b, c] from rfl] at hk
  rw [HA.out, show [a, b] ++ [c] = [a, b, c] from rfl]
  replace HK := Lib.hid hk
  clear hk
  go_wp2_with fail
  refine (take_kept HK.out d).mono ?_
  rintro e w6 ⟨rfl, p6, hk, -, -⟩
  rw [HA.out, show [a, b, c] ++ [d] = [a, b, c, d] from rfl] at hk
  rw [HA.out, show [a, b, c] ++ [d] = [a, b, c, d] from rfl]
  replace HK := Lib.hid hk
  clear hk
  go_wp2_with fail
  refine (take_kept HK.out 1).mono ?_
  rintro e w7 ⟨rfl, p7, hk, -, -⟩
  rw [HA.out, show [a, b, c, d] ++ [1] = [a, b, c, d, 1] from rfl] at hk
  rw [HA.out, show [a, b, c, d] ++ [1] = [a, b, c, d, 1] from rfl]
  have HB := Lib.hid hk.bel
  clear hk HK HA HT
  generalize (runM M.st [a]).e = e1 at *
  generalize (runM M.st [a, b]).e = e2 at *
  generalize (runM M.st [a, b, c]).e = e3 at *
  generalize (runM M.st [a, b, c, d]).e = e4 at *
  generalize (runM M.st [a, b, c, d, 1]).e = e5 at *
  generalize a.toNat = x at *
  generalize b.toNat = y at *
  generalize c.toNat = z at *
  generalize d.toNat = u at *
  rcases HE.out with ⟨h1, rfl, rfl, rfl, rfl, rfl⟩ | ⟨h1, h2, rfl, rfl, rfl, rfl, rfl⟩ | ⟨h1, h2, h3, rfl, rfl, rfl, rfl, rfl⟩ | ⟨h1, h2, h3, h4, rfl, rfl, rfl, rfl, rfl⟩ | ⟨h1, h2, h3, h4, rfl, rfl, rfl, rfl, rfl⟩
  · have i1 : (x : Int) ≠ 1 := by omega
    clear HE h1
    go_wp2_with fail
    go_ret
    exact ⟨rfl, HB.out⟩
  · have i1 : (x : Int) = 1 := by omega
    have i2 : (0 : Int) < (y : Int) := by omega
    clear HE h1 h2
    go_wp2_with fail
    go_ret
    exact ⟨rfl, HB.out⟩
  · have i1 : (x : Int) = 1 := by omega
    have i2 : (y : Int) = 0 := by omega
    have i3 : (64 : Int) < (z : Int) := by omega
    clear HE h1 h2 h3
    go_wp2_with fail
    go_ret
    exact ⟨rfl, HB.out⟩
  · have i1 : (x : Int) = 1 := by omega
    have i2 : (y : Int) = 0 := by omega
    have i3 : (z : Int) ≤ 64 := by omega
    have i4 : (16384 : Int) < (z : Int) * 256 + (u : Int) := by omega
    have i5 : decide ((64 : Int) < (z : Int)) = false := decide_eq_false (by omega)
    clear HE h1 h2 h3 h4
    go_wp2_with fail
    go_ret
    exact ⟨rfl, HB.out⟩
  · have i1 : (x : Int) = 1 := by omega
    have i2 : (y : Int) = 0 := by omega
    have i3 : (z : Int) ≤ 64 := by omega
    have i4 : (z : Int) * 256 + (u : Int) ≤ 16384 := by omega
    clear HE h1 h2 h3 h4
    go_wp2_with fail
    go_ret
    exact ⟨rfl, HB.out⟩

set_option maxRecDepth 100000 in
set_option linter.unusedVariables false in
theorem lifted (os : Os) (started : os.Started) (H : Type) (enc : TypeId × Value → H) :
    ReturnsInHanded {} Try.checked os 7 .any (Rows.shakeWrongSpec.pre6 enc Try.prog Try.f7 Rows.shakeWrongRow.domain false) (Rows.shakeWrongSpec.post enc Try.prog Try.f7 false true false false) := by
  refine returnsInHanded_of_change (C := Try.checked) own started (by kernel_rfl) Try.func7
    (ChangeSpec.witness6 (enc := enc) (C := Try.checked) false ⟨#[], #[.int .u8 0, .int .u8 0, .int .u8 0, .int .u8 0], []⟩ 8 (by kernel_rfl) (by kernel_rfl) (by kernel_rfl) (by kernel_rfl)) ?_
  intro W base args ds gs before hval0 hW hcnd _
  have hval : ∀ (j : Nat) t v, Try.f7.params[j]? = some t → args[j]? = some v → Value.okWide Try.prog W .any base t v := hval0
  have hW' := hW
  obtain ⟨p, q, hA0, hV, rfl, hfz, hnd⟩ := hW
  have hA : DataW.TrodAll enc Try.prog W 0 (fun _ => true) true Try.f7.params.toList args.toList ds p := hA0
  rw [Try.params7] at hA hval
  obtain ⟨v0, vs0, d0, ds0, p0, q0, hargs, rfl, rfl, h0, r0⟩ := trodAll_cons hA
  obtain ⟨v1, vs1, d1, ds1, p1, q1, rfl, rfl, rfl, h1, r1⟩ := trodAll_cons r0
  obtain ⟨v2, vs2, d2, ds2, p2, q2, rfl, rfl, rfl, h2, r2⟩ := trodAll_cons r1
  obtain ⟨v3, vs3, d3, ds3, p3, q3, rfl, rfl, rfl, h3, r3⟩ := trodAll_cons r2
  obtain ⟨rfl, rfl, rfl⟩ := trodAll_nil r3
  obtain rfl : args = #[v0, v1, v2, v3] := by cases args; simp_all
  obtain ⟨rfl, rfl⟩ := trodVars_none hV
  have k0 := h0
  have lt0 : ∀ x ∈ p0, x.block < W.heap.size := by obtain ⟨m, hm⟩ := k0; exact DataW.trod_lt m _ _ _ hm
  obtain ⟨a0, rfl, rfl, rfl, w0⟩ := open_int Try.underlying5 (hval 0 5 v0 rfl rfl) h0
  obtain ⟨c0, rfl⟩ := byte_of w0
  have k1 := h1
  have lt1 : ∀ x ∈ p1, x.block < W.heap.size := by obtain ⟨m, hm⟩ := k1; exact DataW.trod_lt m _ _ _ hm
  obtain ⟨a1, rfl, rfl, rfl, w1⟩ := open_int Try.underlying5 (hval 1 5 v1 rfl rfl) h1
  obtain ⟨c1, rfl⟩ := byte_of w1
  have k2 := h2
  have lt2 : ∀ x ∈ p2, x.block < W.heap.size := by obtain ⟨m, hm⟩ := k2; exact DataW.trod_lt m _ _ _ hm
  obtain ⟨a2, rfl, rfl, rfl, w2⟩ := open_int Try.underlying5 (hval 2 5 v2 rfl rfl) h2
  obtain ⟨c2, rfl⟩ := byte_of w2
  have k3 := h3
  have lt3 : ∀ x ∈ p3, x.block < W.heap.size := by obtain ⟨m, hm⟩ := k3; exact DataW.trod_lt m _ _ _ hm
  obtain ⟨a3, rfl, rfl, rfl, w3⟩ := open_int Try.underlying5 (hval 3 5 v3 rfl rfl) h3
  obtain ⟨c3, rfl⟩ := byte_of w3
  clear hA0 hval0
  refine (walk W c0 c1 c2 c3).mono fun e W' ⟨he, bel⟩ => ?_
  subst he
  exact ⟨_, rfl, _, _, _, [], _, [], hW', trodAll_mk1 (shut_bool Try.underlying4 _), (trodAll_cons_mk (Below.trod laidOut (by kernel_rfl) (of_decide_eq_true (by kernel_rfl)) k0 bel lt0) (trodAll_cons_mk (Below.trod laidOut (by kernel_rfl) (of_decide_eq_true (by kernel_rfl)) k1 bel lt1) (trodAll_cons_mk (Below.trod laidOut (by kernel_rfl) (of_decide_eq_true (by kernel_rfl)) k2 bel lt2) (trodAll_cons_mk (Below.trod laidOut (by kernel_rfl) (of_decide_eq_true (by kernel_rfl)) k3 bel lt3) trodAll_mk0)))), rfl, bel.frame _, fun h => by cases h⟩

theorem over : Rows.shakeWrongRow.holds Try.pinned (OpenSpec.ofChange Rows.shakeWrongSpec) :=
  OpenClaim.holds_of_wide 7 Try.f7 rfl rfl rfl rfl rfl rfl rfl ⟨rfl, rfl, rfl, rfl, rfl⟩ rfl rfl rfl rfl rfl (by kernel_rfl) Try.func7 (by kernel_rfl)
    (of_decide_eq_true (by kernel_rfl)) (by unfold Func.isWrapper; first | (rw [if_pos (by decide +kernel)]; kernel_rfl) | (rw [if_neg (by decide +kernel)]; exact ⟨rfl, rfl⟩))
    (fun os started H enc _ => lifted os started H enc)

theorem proved : Rows.ShakeWrongSaid := over
#print axioms proved
end Go.Proofs.Ytjbcdagkjonlfaa.shakeWrong
