/-
  'A message of n bytes is whole by four more, whatever they are' (hagioscopelaw08.ShakeSize) holds: whatever the number and the byte, the call returns true and leaves what was there as it was. No condition.
-/
import Derived.Test.YtjbcdagkjonlfaaShSmall
import Derived.Test.YtjbcdagkjonlfaaLift
namespace Go.Proofs.Ytjbcdagkjonlfaa.shakeSize
open Go.ChangeShapes Go.WideShapes Go.ChangeAt Go.RowKit
open Go.ChangeMaps (open_string shut_string)
open Go.Proofs.Ytjbcdagkjonlfaa.Wd Go.Proofs.Ytjbcdagkjonlfaa.Sh Go.Proofs.Ytjbcdagkjonlfaa.Lift

/-- a message of which k of its n bytes came, all of them c -/
def at_ (n k : Nat) (c : UInt8) : M := ⟨4, n, List.replicate k c, 0⟩
theorem at_step {n k : Nat} (c : UInt8) (h : k < n) : stepM (at_ n k c) c = at_ n (k + 1) c := by
  unfold at_
  rw [stepM_body rfl rfl (by show (List.replicate k c).length < n; rw [List.length_replicate]; exact h)]
  show M.mk 4 n (List.replicate k c ++ [c]) 0 = _
  rw [← List.replicate_succ']
theorem at_want (n k : Nat) (c : UInt8) : wantM (at_ n k c) = n - k := by unfold wantM at_; simp
theorem at_whole (n k : Nat) (c : UInt8) (h : k ≤ n) : wholeM (at_ n k c) = decide (k = n) := by
  unfold wholeM
  rw [at_want]
  rw [Bool.eq_iff_iff, decide_eq_true_iff, decide_eq_true_iff]
  constructor
  · rintro ⟨-, h2⟩; omega
  · intro h2; exact ⟨rfl, by omega⟩

theorem walk_out (w : World) (n : Int) (c : UInt8) (h : n < 0 ∨ 3000 < n) :
    Calls Try.prog 8 #[.int .i64 n, .int .u8 (c.toNat : Int)] w fun e w' => e = .returned (.bool true) ∧ Below w.heap.size w w' := by
  have h' : n < 0 ∨ (¬ n < 0 ∧ 3000 < n) := by omega
  clear h
  rcases h' with h1 | ⟨h1, h2⟩
  all_goals
    go_enter Try.func8, Try.ntmps8
    go_wp2_with fail
    refine (small_any w).mono ?_
    rintro e w1 ⟨rfl, hb1⟩
    have HB1 := Lib.hid hb1
    clear hb1
    go_wp2_with fail
    go_ret
    exact ⟨rfl, HB1.out⟩

set_option maxRecDepth 100000 in
set_option maxHeartbeats 2000000 in
theorem walk_few (w : World) (n : Nat) (c : UInt8) (hn : n ≤ 3000) :
    Calls Try.prog 8 #[.int .i64 (n : Int), .int .u8 (c.toNat : Int)] w fun e w' => e = .returned (.bool true) ∧ Below w.heap.size w w' := by
  have hni : (n : Int) ≤ 3000 := by omega
  have HR := Lib.hid (run_head n (by omega))
  have H1 := Lib.hid (show ((n : Int) / 256) = ((UInt8.ofNat (n / 256)).toNat : Int) from by rw [byte_nat _ (by omega)]; omega)
  have H2 := Lib.hid (show ((n : Int) % 256) = ((UInt8.ofNat (n % 256)).toNat : Int) from by rw [byte_nat _ (by omega)]; omega)
  go_enter Try.func8, Try.ntmps8
  go_wp2_with fail
  refine (small_any w).mono ?_
  rintro e w1 ⟨rfl, hb1⟩
  go_wp2_with fail
  refine (new_kept w w1 hb1 hb1.size).mono ?_
  rintro e w2 ⟨g, rfl, hk, -, -⟩
  have HK := Lib.hid hk
  clear hk hb1
  go_wp2_with fail
  refine (take_kept HK.out 1).mono ?_
  rintro e w3 ⟨rfl, p3, hk, -, -⟩
  replace HK := Lib.hid hk
  clear hk
  go_wp2_with fail
  refine (take_kept HK.out 0).mono ?_
  rintro e w4 ⟨rfl, p4, hk, -, -⟩
  replace HK := Lib.hid hk
  clear hk
  go_wp2_with fail
  rw [H1.out]
  refine (take_kept HK.out _).mono ?_
  rintro e w5 ⟨rfl, p5, hk, -, -⟩
  replace HK := Lib.hid hk
  clear hk
  go_wp2_with fail
  rw [H2.out]
  refine (take_kept HK.out _).mono ?_
  rintro e w6 ⟨rfl, p6, hk, -, -⟩
  have hrun : stepM (stepM (stepM (stepM M.st 1) 0) (UInt8.ofNat (n / 256))) (UInt8.ofNat (n % 256)) = at_ n 0 c := HR.out
  rw [hrun] at hk
  rw [hrun, at_whole n 0 c (Nat.zero_le _), show (at_ n 0 c).e = 0 from rfl]
  replace HK := Lib.hid hk
  clear hk hrun HR H1 H2
  go_wp2_with fail
  go_loopw [7, 8, 9] (fun wh ev i wr => ∃ (k : Nat) (p : Option Nat), k ≤ n ∧ wh = .bool (decide (k = n)) ∧ ev = .int .i64 0 ∧ i = .int .i64 (k : Int) ∧ Hid (Kept w.heap.size w wr g p (at_ n k c))) (fun _ _ i _ => n - (intOf i).toNat)
  case atStart => exact ⟨0, p6, Nat.zero_le _, rfl, rfl, rfl, HK⟩
  case round =>
    clear HK
    obtain ⟨k, p, hk, rfl, rfl, rfl, HK⟩ := hrel
    by_cases hlt : k < n
    · have hki : (k : Int) < (n : Int) := by omega
      have hd : decide (k = n) = false := decide_eq_false (by omega)
      have hsub : ((n - k : Nat) : Int) = (n : Int) - (k : Int) := by omega
      have HS := Lib.hid (at_step c hlt)
      have HW := Lib.hid (at_whole n (k + 1) c hlt)
      go_wp2_with fail
      refine (want_kept HK.out).mono ?_
      rintro e w7 ⟨rfl, j, rfl⟩
      rw [at_want, hsub]
      replace HK := Lib.hid (HK.out.drewN j)
      clear hsub
      go_wp2_with fail
      refine (take_kept HK.out c).mono ?_
      rintro e w8 ⟨rfl, p8, hk8, -, -⟩
      rw [HS.out] at hk8
      rw [HS.out, HW.out, show (at_ n (k + 1) c).e = 0 from rfl]
      replace HK := Lib.hid hk8
      clear hk8 HS HW
      go_wp2_with fail
      go_roundw
      case rel => exact ⟨k + 1, p8, by omega, rfl, rfl, by go_num, HK⟩
      case measure => simp [intOf]; omega
    · obtain rfl : k = n := by omega
      rw [show decide (k = k) = true from decide_eq_true rfl]
      have HW := Lib.hid (show wantM (at_ k k c) = 0 from by rw [at_want]; omega)
      have HBo := Lib.hid (show (bodyM (at_ k k c)).length = k from by
        unfold bodyM
        rw [at_whole k k c (Nat.le_refl _), if_pos (decide_eq_true rfl)]
        exact List.length_replicate)
      go_wp2_with fail
      refine (body_kept HK.out).mono ?_
      rintro e w7 ⟨v, rfl, hO, hk7, -⟩
      obtain ⟨A1, c1, rfl, -, -, -⟩ := hO.cut_
      rw [HBo.out]
      replace HK := Lib.hid hk7
      clear hO hk7
      go_wp2_with fail
      refine (want_kept HK.out).mono ?_
      rintro e w8 ⟨rfl, j, rfl⟩
      rw [HW.out]
      have HB := Lib.hid (HK.out.drewN j).bel
      go_wp2_with fail
      go_ret
      exact ⟨rfl, HB.out⟩

theorem walk (W : World) (n : Int) (_ : -9223372036854775808 ≤ n ∧ n ≤ 9223372036854775807) (c : UInt8) :
    Calls Try.prog 8 #[.int .i64 n, .int .u8 (c.toNat : Int)] W fun e w' => e = .returned (.bool true) ∧ Below W.heap.size W w' := by
  by_cases h : n < 0 ∨ 3000 < n
  · exact walk_out W n c h
  · obtain ⟨N, rfl⟩ : ∃ N : Nat, n = (N : Int) := ⟨n.toNat, by omega⟩
    exact walk_few W N c (by omega)

set_option maxRecDepth 100000 in
set_option linter.unusedVariables false in
theorem lifted (os : Os) (started : os.Started) (H : Type) (enc : TypeId × Value → H) :
    ReturnsInHanded {} Try.checked os 8 .any (Rows.shakeSizeSpec.pre6 enc Try.prog Try.f8 Rows.shakeSizeRow.domain false) (Rows.shakeSizeSpec.post enc Try.prog Try.f8 false true false false) := by
  refine returnsInHanded_of_change (C := Try.checked) own started (by kernel_rfl) Try.func8
    (ChangeSpec.witness6 (enc := enc) (C := Try.checked) false ⟨#[], #[.int .i64 0, .int .u8 0], []⟩ 8 (by kernel_rfl) (by kernel_rfl) (by kernel_rfl) (by kernel_rfl)) ?_
  intro W base args ds gs before hval0 hW hcnd _
  have hval : ∀ (j : Nat) t v, Try.f8.params[j]? = some t → args[j]? = some v → Value.okWide Try.prog W .any base t v := hval0
  have hW' := hW
  obtain ⟨p, q, hA0, hV, rfl, hfz, hnd⟩ := hW
  have hA : DataW.TrodAll enc Try.prog W 0 (fun _ => true) true Try.f8.params.toList args.toList ds p := hA0
  rw [Try.params8] at hA hval
  obtain ⟨v0, vs0, d0, ds0, p0, q0, hargs, rfl, rfl, h0, r0⟩ := trodAll_cons hA
  obtain ⟨v1, vs1, d1, ds1, p1, q1, rfl, rfl, rfl, h1, r1⟩ := trodAll_cons r0
  obtain ⟨rfl, rfl, rfl⟩ := trodAll_nil r1
  obtain rfl : args = #[v0, v1] := by cases args; simp_all
  obtain ⟨rfl, rfl⟩ := trodVars_none hV
  have k0 := h0
  have lt0 : ∀ x ∈ p0, x.block < W.heap.size := by obtain ⟨m, hm⟩ := k0; exact DataW.trod_lt m _ _ _ hm
  obtain ⟨a0, rfl, rfl, rfl, w0⟩ := open_int Try.underlying3 (hval 0 3 v0 rfl rfl) h0
  have b0 := int_of w0
  have k1 := h1
  have lt1 : ∀ x ∈ p1, x.block < W.heap.size := by obtain ⟨m, hm⟩ := k1; exact DataW.trod_lt m _ _ _ hm
  obtain ⟨a1, rfl, rfl, rfl, w1⟩ := open_int Try.underlying5 (hval 1 5 v1 rfl rfl) h1
  obtain ⟨c1, rfl⟩ := byte_of w1
  clear hA0 hval0
  refine (walk W a0 b0 c1).mono fun e W' ⟨he, bel⟩ => ?_
  subst he
  exact ⟨_, rfl, _, _, _, [], _, [], hW', trodAll_mk1 (shut_bool Try.underlying4 _), (trodAll_cons_mk (Below.trod laidOut (by kernel_rfl) (of_decide_eq_true (by kernel_rfl)) k0 bel lt0) (trodAll_cons_mk (Below.trod laidOut (by kernel_rfl) (of_decide_eq_true (by kernel_rfl)) k1 bel lt1) trodAll_mk0)), rfl, bel.frame _, fun h => by cases h⟩

theorem over : Rows.shakeSizeRow.holds Try.pinned (OpenSpec.ofChange Rows.shakeSizeSpec) :=
  OpenClaim.holds_of_wide 8 Try.f8 rfl rfl rfl rfl rfl rfl rfl ⟨rfl, rfl, rfl, rfl, rfl⟩ rfl rfl rfl rfl rfl (by kernel_rfl) Try.func8 (by kernel_rfl)
    (of_decide_eq_true (by kernel_rfl)) (by unfold Func.isWrapper; first | (rw [if_pos (by decide +kernel)]; kernel_rfl) | (rw [if_neg (by decide +kernel)]; exact ⟨rfl, rfl⟩))
    (fun os started H enc _ => lifted os started H enc)

theorem proved : Rows.ShakeSizeSaid := over
#print axioms proved
end Go.Proofs.Ytjbcdagkjonlfaa.shakeSize
