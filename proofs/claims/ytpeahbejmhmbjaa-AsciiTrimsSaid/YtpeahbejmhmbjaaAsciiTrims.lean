/-
  The law AsciiTrims holds: whatever the string and the numbers, the call returns true and leaves what was there as it was. No condition.
-/
import Derived.Test.YtpeahbejmhmbjaaAscLaws
import Derived.Test.YtpeahbejmhmbjaaLift
namespace Go.Proofs.Ytpeahbejmhmbjaa.asciiTrims
open Go.ChangeShapes Go.WideShapes Go.ChangeAt Go.RowKit
open Go.ChangeMaps (open_string shut_string)
open Go.Proofs.Ytpeahbejmhmbjaa.Wd Go.Proofs.Ytpeahbejmhmbjaa.Asc Go.Proofs.Ytpeahbejmhmbjaa.Lift

/-- a string of blanks, so many from 'o' on -/
def BlIn (o : Nat) (n : Int) (x y : Value) : Prop := ∃ (k : Nat) (b : ByteArray), y = .int .i64 k ∧ x = .string b ∧ (k : Int) ≤ n ∧ b.size = o + k ∧ (bs b).all blkB = true
theorem bl_next {b : ByteArray} {c : UInt8} (h : (bs b).all blkB = true) (hc : blkB c = true) : (bs (b ++ ⟨#[c]⟩)).all blkB = true := by
  rw [bs_add, List.all_append, h]
  show (true && (blkB c && true)) = true
  rw [hc]; rfl
theorem bl_size (b : ByteArray) (c : UInt8) : (b ++ ⟨#[c]⟩).size = b.size + 1 := by rw [size_add]; rfl

set_option maxRecDepth 100000 in
set_option maxHeartbeats 4000000 in
theorem walk (w : World) (s : ByteArray) (_hs : s.size ≤ maxLen) (n : Int) (_hn : -9223372036854775808 ≤ n ∧ n ≤ 9223372036854775807) (m : Int) (_hm : -9223372036854775808 ≤ m ∧ m ≤ 9223372036854775807) :
    Calls Try.prog 7 #[.string s, .int .i64 n, .int .i64 m] w fun e w' => e = .returned (.bool true) ∧ Below w.heap.size w w' := by
  have hB : Below w.heap.size w w := Below.refl _ _
  by_cases h1 : 1000 < s.size
  · go_enter Try.func7, Try.ntmps7
    go_wp2_with (go_at_call 9; refine (small_any _).mono ?_; rintro e w' ⟨rfl, hb⟩; replace hB := hB.trans (hb.mono hB.size); clear hb)
    go_ret
    exact ⟨rfl, hB⟩
  by_cases h2 : n < 0
  · go_enter Try.func7, Try.ntmps7
    go_wp2_with (go_at_call 9; refine (small_any _).mono ?_; rintro e w' ⟨rfl, hb⟩; replace hB := hB.trans (hb.mono hB.size); clear hb)
    go_ret
    exact ⟨rfl, hB⟩
  by_cases h3 : 50 < n
  · go_enter Try.func7, Try.ntmps7
    go_wp2_with (go_at_call 9; refine (small_any _).mono ?_; rintro e w' ⟨rfl, hb⟩; replace hB := hB.trans (hb.mono hB.size); clear hb)
    go_ret
    exact ⟨rfl, hB⟩
  by_cases h4 : m < 0
  · go_enter Try.func7, Try.ntmps7
    go_wp2_with (go_at_call 9; refine (small_any _).mono ?_; rintro e w' ⟨rfl, hb⟩; replace hB := hB.trans (hb.mono hB.size); clear hb)
    go_ret
    exact ⟨rfl, hB⟩
  by_cases h5 : 50 < m
  · go_enter Try.func7, Try.ntmps7
    go_wp2_with (go_at_call 9; refine (small_any _).mono ?_; rintro e w' ⟨rfl, hb⟩; replace hB := hB.trans (hb.mono hB.size); clear hb)
    go_ret
    exact ⟨rfl, hB⟩
  have d1 : decide ((1000 : Int) < (s.size : Int)) = false := by simp; omega
  have d2 : decide (n < 0) = false := by simp; omega
  have d3 : decide (50 < n) = false := by simp; omega
  have d4 : decide (m < 0) = false := by simp; omega
  have d5 : decide (50 < m) = false := by simp; omega
  obtain ⟨t, HT, HF, HL, HW, HA, hts⟩ : ∃ t : ByteArray, Hid (trimS s = t) ∧ Hid (∀ h : 0 < t.size, blkB (t[0]'h) = false) ∧ Hid (∀ (k : Nat) (h : t.size = k + 1), blkB (t[k]'(by omega)) = false) ∧ Hid (trimS t = t) ∧
      Hid (∀ x : ByteArray, (bs x).all blkB = true → trimS (x ++ s ++ x) = t) ∧ t.size ≤ s.size :=
    ⟨trimS s, Lib.hid rfl, Lib.hid (trimS_first s), Lib.hid (trimS_last s), Lib.hid (trimS_twice s), Lib.hid (trimS_around · s), trimS_size s⟩
  go_enter Try.func7, Try.ntmps7
  go_wp2_with (go_at_call 9; refine (small_any _).mono ?_; rintro e w' ⟨rfl, hb⟩; replace hB := hB.trans (hb.mono hB.size); clear hb)
  go_loop [8, 9] (fun x y => BlIn 0 n x y) (fun _ y => (n - intOf y).toNat)
  case atStart => exact ⟨0, ⟨#[]⟩, rfl, rfl, by omega, rfl, rfl⟩
  case round =>
    obtain ⟨k, b, rfl, rfl, hk, hbz, hba⟩ := hrel
    have HBA := Lib.hid hba
    have HBZ := Lib.hid hbz
    have hbl : b.size ≤ 100 := by omega
    clear hba hbz
    by_cases hlt : (k : Int) < n
    · go_wp2
      go_round
      case rel => exact ⟨k + 1, b ++ ⟨#[32]⟩, by go_num, rfl, by omega, by rw [bl_size, HBZ.out]; omega, bl_next HBA.out rfl⟩
      case measure => simp [intOf]; omega
    · go_wp2
      go_loop [8, 10] (fun x y => BlIn k m x y) (fun _ y => (m - intOf y).toNat)
      case atStart => exact ⟨0, b, rfl, rfl, by omega, by rw [HBZ.out]; omega, HBA.out⟩
      case round =>
        clear HBA HBZ
        obtain ⟨j, b, rfl, rfl, hj, hbz, hba⟩ := hrel
        have HBA := Lib.hid hba
        have HBZ := Lib.hid hbz
        have hbl2 : b.size ≤ 200 := by omega
        have hz1 : (b ++ s ++ b).size ≤ 140737488355328 := by rw [size_add, size_add, hbz]; omega
        have HZ1 := Lib.hid hz1
        clear hba hbz hz1
        by_cases hlt2 : (j : Int) < m
        · go_wp2
          go_round
          case rel => exact ⟨j + 1, b ++ ⟨#[9]⟩, by go_num, rfl, by omega, by rw [bl_size, HBZ.out]; omega, bl_next HBA.out rfl⟩
          case measure => simp [intOf]; omega
        · have HA2 := Lib.hid (HA.out b HBA.out)
          by_cases h0 : 0 < t.size
          · obtain ⟨a1, a2⟩ := no_blank (HF.out h0)
            obtain ⟨q, hq⟩ : ∃ q, t.size = q + 1 := ⟨t.size - 1, by omega⟩
            have hq2 : q < t.size := by omega
            obtain ⟨a3, a4⟩ := no_blank (HL.out q hq)
            clear HF HL
            go_wp2_with (first
              | (go_at_call 17; (with_reducible refine (trim_any s _ (by omega)).mono ?_); rintro e w' ⟨rfl, hb⟩; replace hB := hB.trans (hb.mono hB.size); clear hb; rw [HT.out])
              | (go_at_call 17; (with_reducible refine (trim_any t _ (by omega)).mono ?_); rintro e w' ⟨rfl, hb⟩; replace hB := hB.trans (hb.mono hB.size); clear hb; rw [HW.out])
              | (go_at_call 17; refine (trim_any (b ++ s ++ b) _ HZ1.out).mono ?_; rintro e w' ⟨rfl, hb⟩; replace hB := hB.trans (hb.mono hB.size); clear hb; rw [HA2.out]))
            go_ret
            exact ⟨by simp, hB⟩
          · clear HF HL
            go_wp2_with (first
              | (go_at_call 17; (with_reducible refine (trim_any s _ (by omega)).mono ?_); rintro e w' ⟨rfl, hb⟩; replace hB := hB.trans (hb.mono hB.size); clear hb; rw [HT.out])
              | (go_at_call 17; (with_reducible refine (trim_any t _ (by omega)).mono ?_); rintro e w' ⟨rfl, hb⟩; replace hB := hB.trans (hb.mono hB.size); clear hb; rw [HW.out])
              | (go_at_call 17; refine (trim_any (b ++ s ++ b) _ HZ1.out).mono ?_; rintro e w' ⟨rfl, hb⟩; replace hB := hB.trans (hb.mono hB.size); clear hb; rw [HA2.out]))
            go_ret
            exact ⟨by simp, hB⟩

set_option maxRecDepth 100000 in
set_option linter.unusedVariables false in
theorem lifted (os : Os) (started : os.Started) (H : Type) (enc : TypeId × Value → H) :
    ReturnsInHanded {} Try.checked os 7 .any (Rows.asciiTrimsSpec.pre6 enc Try.prog Try.f7 Rows.asciiTrimsRow.domain false) (Rows.asciiTrimsSpec.post enc Try.prog Try.f7 false true false false) := by
  refine returnsInHanded_of_change (C := Try.checked) own started (by kernel_rfl) Try.func7
    (ChangeSpec.witness6 (enc := enc) (C := Try.checked) false ⟨#[], #[.string .empty, .int .i64 0, .int .i64 0], []⟩ 8 (by kernel_rfl) (by kernel_rfl) (by kernel_rfl) (by kernel_rfl)) ?_
  intro W base args ds gs before hval0 hW hcnd _
  have hval : ∀ (j : Nat) t v, Try.f7.params[j]? = some t → args[j]? = some v → Value.okWide Try.prog W .any base t v := hval0
  have hW' := hW
  obtain ⟨p, q, hA0, hV, rfl, hfz, hnd⟩ := hW
  have hA : DataW.TrodAll enc Try.prog W 0 (fun _ => true) true Try.f7.params.toList args.toList ds p := hA0
  rw [Try.params7] at hA hval
  obtain ⟨v0, vs0, d0, ds0, p0, q0, hargs, rfl, rfl, h0, r0⟩ := trodAll_cons hA
  obtain ⟨v1, vs1, d1, ds1, p1, q1, rfl, rfl, rfl, h1, r1⟩ := trodAll_cons r0
  obtain ⟨v2, vs2, d2, ds2, p2, q2, rfl, rfl, rfl, h2, r2⟩ := trodAll_cons r1
  obtain ⟨rfl, rfl, rfl⟩ := trodAll_nil r2
  obtain rfl : args = #[v0, v1, v2] := by cases args; simp_all
  obtain ⟨rfl, rfl⟩ := trodVars_none hV
  have k0 := h0
  have lt0 : ∀ x ∈ p0, x.block < W.heap.size := by obtain ⟨m, hm⟩ := k0; exact DataW.trod_lt m _ _ _ hm
  obtain ⟨s0, rfl, rfl, rfl, hs0⟩ := open_string Try.underlying9 (hval 0 9 v0 rfl rfl) h0
  have k1 := h1
  have lt1 : ∀ x ∈ p1, x.block < W.heap.size := by obtain ⟨m, hm⟩ := k1; exact DataW.trod_lt m _ _ _ hm
  obtain ⟨a1, rfl, rfl, rfl, w1⟩ := open_int Try.underlying3 (hval 1 3 v1 rfl rfl) h1
  have b1 := int_of w1
  have k2 := h2
  have lt2 : ∀ x ∈ p2, x.block < W.heap.size := by obtain ⟨m, hm⟩ := k2; exact DataW.trod_lt m _ _ _ hm
  obtain ⟨a2, rfl, rfl, rfl, w2⟩ := open_int Try.underlying3 (hval 2 3 v2 rfl rfl) h2
  have b2 := int_of w2
  clear hA0 hval0
  refine (walk W s0 hs0 a1 b1 a2 b2).mono fun e W' ⟨he, bel⟩ => ?_
  subst he
  exact ⟨_, rfl, _, _, _, [], _, [], hW', trodAll_mk1 (shut_bool Try.underlying4 _), (trodAll_cons_mk (Below.trod laidOut (by kernel_rfl) (of_decide_eq_true (by kernel_rfl)) k0 bel lt0) (trodAll_cons_mk (Below.trod laidOut (by kernel_rfl) (of_decide_eq_true (by kernel_rfl)) k1 bel lt1) (trodAll_cons_mk (Below.trod laidOut (by kernel_rfl) (of_decide_eq_true (by kernel_rfl)) k2 bel lt2) trodAll_mk0))), rfl, bel.frame _, fun h => by cases h⟩

theorem over : Rows.asciiTrimsRow.holds Try.pinned (OpenSpec.ofChange Rows.asciiTrimsSpec) :=
  OpenClaim.holds_of_wide 7 Try.f7 rfl rfl rfl rfl rfl rfl rfl ⟨rfl, rfl, rfl, rfl, rfl⟩ rfl rfl rfl rfl rfl (by kernel_rfl) Try.func7 (by kernel_rfl)
    (of_decide_eq_true (by kernel_rfl)) (by unfold Func.isWrapper; first | (rw [if_pos (by decide +kernel)]; kernel_rfl) | (rw [if_neg (by decide +kernel)]; exact ⟨rfl, rfl⟩))
    (fun os started H enc _ => lifted os started H enc)

theorem proved : Rows.AsciiTrimsSaid := over
#print axioms proved
end Go.Proofs.Ytpeahbejmhmbjaa.asciiTrims
