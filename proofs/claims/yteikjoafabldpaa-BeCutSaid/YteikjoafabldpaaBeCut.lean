/-
  The law BeCut holds: whatever the bytes and the cut, the call returns true and leaves what was there as it was. No condition.
-/
import Derived.Test.YteikjoafabldpaaBePure
import Derived.Test.YteikjoafabldpaaLift
namespace Go.Proofs.Yteikjoafabldpaa.beCut
open Go.ChangeShapes Go.WideShapes Go.ChangeAt Go.RowKit
open Go.ChangeMaps (open_string shut_string)
open Go.Proofs.Yteikjoafabldpaa.Wd Go.Proofs.Yteikjoafabldpaa.Be Go.Proofs.Yteikjoafabldpaa.Lift

theorem src_cut {w : World} {g : Nat} {t : TypeId} {xs : List UInt8} (h : Blk w g t (cellsOf xs).toArray) (k : Nat) (hk : k ≤ xs.length) : Src w (some ⟨g, 0, none⟩) k (xs.take k) := by
  have h2 := Src.of_blk (xs := xs.take k) h (off := 0) (fun j c hj => by
    rw [List.getElem?_take] at hj
    split at hj
    · simpa using cellsOf_get hj
    · cases hj)
  rwa [List.length_take, Nat.min_eq_left hk] at h2

set_option maxHeartbeats 1000000 in
theorem walkInside (A : Option Addr) (n cap : Nat) (xs : List UInt8) (w : World) (hs : Src w A n xs) (cut : Nat) (hn : n ≤ 1000) (hc : cut < n + 2) :
    Calls Try.prog 7 #[.slice A n cap, .int .i64 (cut : Int)] w fun e w' => e = .returned (.bool true) ∧ Below w.heap.size w w' := by
  have HX := Lib.hid hs.1
  have hd : decide ((cut : Int) < 0) = false := by simp
  go_enter Try.func7, Try.ntmps7
  go_wp2_with fail
  refine (small_any w).mono ?_
  rintro e w1 ⟨rfl, hb1⟩
  have hs1 := hs.below hb1
  have HS1 := Lib.hid hs1
  clear hs hs1
  go_wp2_with fail
  refine (vec_yes none 0 0 2 A n cap 2 [] xs w1 (Src.nil w1) HS1.out (by omega) (by decide) (by rw [show (256 : Int) ^ 2 = 65536 from by simp]; omega)).mono ?_
  rintro e w2 ⟨rfl, hblk, hb2⟩
  have hbw2 : Below w.heap.size w w2 := hb1.trans (hb2.mono hb1.size)
  have hblk' : Blk w2 w1.heap.size 5 (cellsOf (bytesOf (xs.length : Int) 2 ++ xs)).toArray := by rw [HX.out]; exact hblk
  have HS2 := Lib.hid (src_cut hblk' cut (by rw [List.length_append, bytesOf_length, HX.out]; omega))
  have HV := Lib.hid (vecS_cut xs cut (by rw [HX.out]; omega) (by rw [HX.out]; omega))
  have Hl : Hid ((((bytesOf (xs.length : Int) 2 ++ xs).take cut)).length ≤ 1002) := by show _ ≤ _; rw [List.length_take]; omega
  generalize (bytesOf (xs.length : Int) 2 ++ xs).take cut = ys at *
  clear hblk hblk' hb2 hb1
  go_wp2_with fail
  refine (read_any _ cut _ ys w2 HS2.out (by omega)).mono ?_
  rintro e w3 ⟨r, rfl, hr, hrd, hb3⟩
  have HRD := Lib.hid hrd
  have hbw3 : Below w.heap.size w w3 := hbw2.trans (hb3.mono hbw2.size)
  have hrw : w.heap.size ≤ r := Nat.le_trans hbw2.size hr
  clear hrd hb3 hbw2 hr
  go_wp2_with fail
  refine (rvec_any r 2 _ w3 HRD.out (fun rest h => by injection h with h; subst h; have := Hl.out; omega)).mono ?_
  rw [HV.out]
  rintro e w4 ⟨v, rfl, hsl, hrd4, hg4⟩
  obtain ⟨A4, c4, rfl, _, _⟩ := hsl.src
  have HR4 := Lib.hid hrd4
  have hbw4 : Below w.heap.size w w4 := below_of_only hbw3 hg4 hbw3.size hrw
  clear hrd4 hsl hg4 hbw3
  go_wp2_with fail
  refine (bad_any r none w4 HR4.out).mono ?_
  rintro e w5 ⟨rfl, rfl⟩
  rw [show (none : Option (List UInt8)).isNone = true from rfl]
  go_wp2_with fail
  refine (num_any r 1 none w4 HR4.out (fun rest h => by cases h)).mono ?_
  rw [numS_none]
  rintro e w5 ⟨rfl, hrd5, hg5⟩
  have HR5 := Lib.hid hrd5
  have hbw5 : Below w.heap.size w w5 := below_of_only hbw4 hg5 hbw4.size hrw
  clear hrd5 hg5 hbw4
  go_wp2_with fail
  refine (take_any r 0 none w5 HR5.out (fun rest h => by cases h)).mono ?_
  rw [takeS_none]
  rintro e w6 ⟨v, rfl, hsl, hrd6, hg6⟩
  obtain ⟨A6, c6, rfl, _, _⟩ := hsl.src
  have HR6 := Lib.hid hrd6
  have hbw6 : Below w.heap.size w w6 := below_of_only hbw5 hg6 hbw5.size hrw
  clear hrd6 hg6 hbw5 hsl
  go_wp2_with fail
  refine (done_any r none w6 HR6.out).mono ?_
  rintro e w7 ⟨rfl, rfl⟩
  rw [show doneS none = false from rfl]
  go_wp2_with fail
  go_ret
  exact ⟨rfl, hbw6⟩

set_option maxHeartbeats 1000000 in
theorem walk (w0 : World) (A : Option Addr) (n cap : Nat) (xs : List UInt8) (_ : n ≤ cap) (_hm : cap ≤ maxLen) (hs : Src w0 A n xs) (cut : Int) (_ : -9223372036854775808 ≤ cut ∧ cut ≤ 9223372036854775807) :
    Calls Try.prog 7 #[.slice A n cap, .int .i64 cut] w0 fun e w' => e = .returned (.bool true) ∧ Below w0.heap.size w0 w' := by
  unfold maxLen at _hm
  by_cases hn : n ≤ 1000
  · by_cases hc : 0 ≤ cut ∧ cut < n + 2
    · obtain ⟨k, rfl⟩ := Int.eq_ofNat_of_zero_le hc.1
      exact walkInside A n cap xs w0 hs k hn (by omega)
    · by_cases h0 : cut < 0
      · have hd : decide (cut < 0) = true := by simpa using h0
        go_enter Try.func7, Try.ntmps7
        go_wp2_with fail
        refine (small_any w0).mono ?_
        rintro e w1 ⟨rfl, hb1⟩
        have HS1 := Lib.hid (hs.below hb1)
        clear hs
        go_wp2_with fail
        refine (vec_yes none 0 0 2 A n cap 2 [] xs w1 (Src.nil w1) HS1.out (by omega) (by decide) (by rw [show (256 : Int) ^ 2 = 65536 from by simp]; omega)).mono ?_
        rintro e w2 ⟨rfl, hblk, hb2⟩
        have hbw2 : Below w0.heap.size w0 w2 := hb1.trans (hb2.mono hb1.size)
        clear hblk hb2 hb1
        go_wp2_with fail
        go_ret
        exact ⟨rfl, hbw2⟩
      · have hd : decide (cut < 0) = false := by simpa using h0
        have hge : (n : Int) + 2 ≤ cut := by omega
        clear hc
        go_enter Try.func7, Try.ntmps7
        go_wp2_with fail
        refine (small_any w0).mono ?_
        rintro e w1 ⟨rfl, hb1⟩
        have HS1 := Lib.hid (hs.below hb1)
        clear hs
        go_wp2_with fail
        refine (vec_yes none 0 0 2 A n cap 2 [] xs w1 (Src.nil w1) HS1.out (by omega) (by decide) (by rw [show (256 : Int) ^ 2 = 65536 from by simp]; omega)).mono ?_
        rintro e w2 ⟨rfl, hblk, hb2⟩
        have hbw2 : Below w0.heap.size w0 w2 := hb1.trans (hb2.mono hb1.size)
        clear hblk hb2 hb1
        go_wp2_with fail
        go_ret
        exact ⟨rfl, hbw2⟩
  · have hn' : 1000 < n := by omega
    go_enter Try.func7, Try.ntmps7
    go_wp2_with fail
    refine (small_any w0).mono ?_
    rintro e w1 ⟨rfl, hb1⟩
    go_wp2_with fail
    go_ret
    exact ⟨rfl, hb1⟩

set_option maxRecDepth 100000 in
set_option linter.unusedVariables false in
theorem lifted (os : Os) (started : os.Started) (H : Type) (enc : TypeId × Value → H) :
    ReturnsInHanded {} Try.checked os 7 .any (Rows.beCutSpec.pre6 enc Try.prog Try.f7 Rows.beCutRow.domain false) (Rows.beCutSpec.post enc Try.prog Try.f7 false true false false) := by
  refine returnsInHanded_of_change (C := Try.checked) own started (by kernel_rfl) Try.func7
    (ChangeSpec.witness6 (enc := enc) (C := Try.checked) false ⟨#[], #[.slice none 0 0, .int .i64 0], []⟩ 8 (by kernel_rfl) (by kernel_rfl) (by kernel_rfl) (by kernel_rfl)) ?_
  intro W base args ds gs before hval0 hW hcnd _
  have hval : ∀ (j : Nat) t v, Try.f7.params[j]? = some t → args[j]? = some v → Value.okWide Try.prog W .any base t v := hval0
  have hW' := hW
  obtain ⟨p, q, hA0, hV, rfl, hfz, hnd⟩ := hW
  have hA : DataW.TrodAll enc Try.prog W 0 (fun _ => true) true Try.f7.params.toList args.toList ds p := hA0
  rw [Try.params7] at hA hval
  obtain ⟨v0, vs0, d0, ds0, p0, q0, hargs, rfl, rfl, h0, r0⟩ := trodAll_cons hA
  obtain ⟨v1, vs1, d1, ds1, p1, q1, rfl, rfl, rfl, h1, r1⟩ := trodAll_cons r0
  obtain ⟨rfl, rfl, rfl⟩ := trodAll_nil r1
  obtain rfl : args = #[v0, v1] := by cases args; simp_all
  obtain ⟨rfl, rfl⟩ := trodVars_none hV
  have k0 := h0
  have lt0 : ∀ x ∈ p0, x.block < W.heap.size := by obtain ⟨m, hm⟩ := k0; exact DataW.trod_lt m _ _ _ hm
  obtain ⟨A0, n0, cap0, xs0, rfl, le0, mx0, src0⟩ := open_bytes (hval 0 22 v0 rfl rfl) h0
  have k1 := h1
  have lt1 : ∀ x ∈ p1, x.block < W.heap.size := by obtain ⟨m, hm⟩ := k1; exact DataW.trod_lt m _ _ _ hm
  obtain ⟨a1, rfl, rfl, rfl, w1⟩ := open_int Try.underlying3 (hval 1 3 v1 rfl rfl) h1
  have b1 := int_of w1
  clear hA0 hval0
  refine (walk W A0 n0 cap0 xs0 le0 mx0 src0 a1 b1).mono fun e W' ⟨he, bel⟩ => ?_
  subst he
  exact ⟨_, rfl, _, _, _, [], _, [], hW', trodAll_mk1 (shut_bool Try.underlying4 _), (trodAll_cons_mk (Below.trod laidOut (by kernel_rfl) (of_decide_eq_true (by kernel_rfl)) k0 bel lt0) (trodAll_cons_mk (Below.trod laidOut (by kernel_rfl) (of_decide_eq_true (by kernel_rfl)) k1 bel lt1) trodAll_mk0)), rfl, bel.frame _, fun h => by cases h⟩

theorem over : Rows.beCutRow.holds Try.pinned (OpenSpec.ofChange Rows.beCutSpec) :=
  OpenClaim.holds_of_wide 7 Try.f7 rfl rfl rfl rfl rfl rfl rfl ⟨rfl, rfl, rfl, rfl, rfl⟩ rfl rfl rfl rfl rfl (by kernel_rfl) Try.func7 (by kernel_rfl)
    (of_decide_eq_true (by kernel_rfl)) (by unfold Func.isWrapper; first | (rw [if_pos (by decide +kernel)]; kernel_rfl) | (rw [if_neg (by decide +kernel)]; exact ⟨rfl, rfl⟩))
    (fun os started H enc _ => lifted os started H enc)

theorem proved : Rows.BeCutSaid := over
#print axioms proved
end Go.Proofs.Yteikjoafabldpaa.beCut
