/-
  'Where an error is known no more bytes change it, and it is known at no byte ahead' (hagioscopelaw07.RecordWrong) holds: whatever the bytes and what comes behind, the call returns true and leaves what was there as it was. No condition.
-/
import Derived.Test.YtgjgffiogknefaaRcSmall
import Derived.Test.YtgjgffiogknefaaRcMore
import Derived.Test.YtgjgffiogknefaaLift
import Derived.Test.YtgjgffiogknefaaLst
import Derived.LoopTactic
namespace Go.Proofs.Ytgjgffiogknefaa.recordWrong
open Go.ChangeShapes Go.WideShapes Go.ChangeAt Go.RowKit
open Go.ChangeMaps (open_string shut_string)
open Go.Proofs.Ytgjgffiogknefaa.Wd Go.Proofs.Ytgjgffiogknefaa.Rc Go.Proofs.Ytgjgffiogknefaa.Lift

theorem walk_out (w : World) (A : Option Addr) (n cap : Nat) (A2 : Option Addr) (n2 cap2 : Nat) (hc : n ≤ 9223372036854775807) (hc2 : n2 ≤ 9223372036854775807) (h : 3000 < n ∨ 1000 < n2) :
    Calls Try.prog 6 #[.slice A n cap, .slice A2 n2 cap2] w fun e w' => e = .returned (.bool true) ∧ Below w.heap.size w w' := by
  have h' : (3000 : Int) < (n : Int) ∨ ((n : Int) ≤ 3000 ∧ (1000 : Int) < (n2 : Int)) := by omega
  clear h
  rcases h' with h1 | ⟨h1, h2⟩
  all_goals
    go_enter Try.func6, Try.ntmps6
    go_wp2_with fail
    refine (small_any w).mono ?_
    rintro e w1 ⟨rfl, hb1⟩
    have HB1 := Lib.hid hb1
    clear hb1
    go_wp2_with fail
    go_ret
    exact ⟨rfl, HB1.out⟩

set_option maxRecDepth 100000 in
set_option maxHeartbeats 1000000 in
theorem walk_few (w : World) (A : Option Addr) (n cap : Nat) (bs : List UInt8) (A2 : Option Addr) (n2 cap2 : Nat) (ms : List UInt8) (hc : n ≤ cap) (hs : Src w A n bs) (hs2 : Src w A2 n2 ms) (hn : n ≤ 3000) (hn2 : n2 ≤ 1000) :
    Calls Try.prog 6 #[.slice A n cap, .slice A2 n2 cap2] w fun e w' => e = .returned (.bool true) ∧ Below w.heap.size w w' := by
  have HS := Lib.hid hs
  have HT := Lib.hid hs2
  have hn1 : (n : Int) ≤ 3000 := by omega
  have hn3 : (n2 : Int) ≤ 1000 := by omega
  have hL := hs.1
  have hL2 := hs2.1
  have HL := Lib.hid hL
  have HL2 := Lib.hid hL2
  have HO1 := Lib.hid (outD_len (D.st 0) bs)
  have HO2 := Lib.hid (outD_len (D.st 0) (bs ++ ms))
  rw [hL] at HO1
  rw [List.length_append, hL, hL2] at HO2
  clear hs hs2 hL hL2
  go_enter Try.func6, Try.ntmps6
  go_wp2_with fail
  refine (small_any w).mono ?_
  rintro e w1 ⟨rfl, hb1⟩
  have HB1 := Lib.hid hb1
  have HS1 := Lib.hid (HS.out.below hb1)
  have HT1 := Lib.hid (HT.out.below hb1)
  clear hb1 HS HT
  go_wp2_with fail
  refine (all_any w1 A n cap bs HS1.out (by omega)).mono ?_
  rintro e w2 ⟨v2, rfl, hO2, hb2⟩
  have HB2 := Lib.hid (HB1.out.trans (hb2.mono HB1.out.size))
  have HS2 := Lib.hid (HS1.out.below hb2)
  have HT2 := Lib.hid (HT1.out.below hb2)
  obtain ⟨Ax, cx, rfl, -, hsx, -⟩ := hO2.cut_
  obtain ⟨Lx, hLx⟩ : ∃ Lx, Lx = (outD (D.st 0) bs).length := ⟨_, rfl⟩
  rw [← hLx] at hsx HO1
  rw [← hLx]
  have HX2 := Lib.hid hsx
  have HLx := Lib.hid hLx
  have HAl := Lib.hid (show Below w2.heap.size w2 (w2.alloc (.cells #[] 5)) from (Below.refl _ _).alloc (Nat.le_refl _) _)
  have HS2a := Lib.hid (HS2.out.alloc (.cells #[] 5))
  have HOa := Lib.hid (Own.empty w2 w2.heap.size (Nat.le_refl _))
  clear hO2 hb2 hsx hLx HB1 HS1 HT1
  go_wp2_with (at_builtin; first
    | (refine wpList_app rfl (.tmp 32) (.tmp 33) 22 rfl und8 inf8 w2.heap.size _ [] rfl HOa.out A n cap bs rfl HS2a.out (by simp; omega) (by simp) ?_; intro v3 w3 HO3 hb3; rw [List.nil_append] at HO3; have HB3 := Lib.hid (HAl.out.trans hb3); have HT3 := Lib.hid (HT2.out.below HB3.out))
    | (refine wpList_app rfl (.tmp 34) (.tmp 35) 22 rfl und8 inf8 w2.heap.size _ bs rfl HO3.out A2 n2 cap2 ms rfl HT3.out (by rw [HL.out]; omega) HB3.out.size ?_; intro v4 w4 HO4 hb4; have HB4 := Lib.hid (HB3.out.trans hb4); obtain ⟨A4, c4, rfl, -, hs4, -⟩ := HO4.out.cut_; rw [List.length_append, HL.out, HL2.out] at hs4; have HS4 := Lib.hid hs4; rw [List.length_append, HL.out, HL2.out]; clear hs4))
  refine (all_any w4 A4 (n + n2) c4 _ HS4.out (by omega)).mono ?_
  rintro e w5 ⟨v5, rfl, hO5, hb5⟩
  have HB5 := Lib.hid (HB4.out.trans (hb5.mono HB4.out.size))
  have HX5 := Lib.hid (HX2.out.below HB5.out)
  have HS5 := Lib.hid (HS2.out.below HB5.out)
  obtain ⟨Ay, cy, rfl, -, hsy, -⟩ := hO5.cut_
  have HBw5 := Lib.hid (HB2.out.trans (HB5.out.mono HB2.out.size))
  clear hO5 hb5 HS4 HB4 HB3 HO4 HO3 HT3 HAl HOa HS2a HB5 HB2 HS2 HT2 HX2
  cases ha : atD (D.st 0) bs with
  | none =>
    have he := (atD_none (d := D.st 0) bs rfl).1 ha
    obtain ⟨-, r2, r3⟩ := right (more := ms) he
    rw [← HLx.out] at r2
    rw [HL.out] at r3
    rw [he, show atI (none : Option Nat) = -1 from rfl]
    have hly : (outD (D.st 0) (bs ++ ms)).length ≤ n + n2 := HO2.out
    generalize (outD (D.st 0) (bs ++ ms)).length = Ly at *
    generalize (runD (D.st 0) (bs ++ ms)).e = ev at *
    generalize atI (atD (D.st 0) (bs ++ ms)) = ti at *
    clear hsy ha he HX5 HS5
    have r2i : (Lx : Int) ≤ (Ly : Int) := by omega
    by_cases h0 : ev = 0
    · subst h0
      clear r3
      go_wp2_with fail
      go_ret
      exact ⟨by simp, HBw5.out⟩
    · have r4 : (n : Int) ≤ ti := by
        rcases r3 with r3 | r3
        · exact absurd r3 h0
        · exact r3
      have h0i : (ev : Int) ≠ 0 := by omega
      clear r3
      go_wp2_with fail
      go_ret
      exact ⟨by simp, HBw5.out⟩
  | some i =>
    obtain ⟨q1, q2, q3, q4, q5, q6, q7, q8⟩ := wrong (more := ms) ha
    rw [HL.out] at q1
    rw [q3, q4, show atI (some i) = (i : Int) from rfl]
    rw [q5, ← HLx.out] at hsy
    rw [q5, ← HLx.out]
    have HY5 := Lib.hid hsy
    have Q6 := Lib.hid q6
    have Q7 := Lib.hid q7
    have Q8 := Lib.hid q8
    generalize (runD (D.st 0) bs).e = ev at *
    have h0i : (ev : Int) ≠ 0 := by omega
    have hi1 : (0 : Int) ≤ (i : Int) := by omega
    have hi2 : (i : Int) < (n : Int) := by omega
    have hsl := fun w' => slice_to und8 siz8 A n cap w' i (by omega)
    have HI5 := Lib.hid (HS5.out.take (Nat.le_of_lt q1))
    clear q2 q3 q4 q5 q6 q7 q8 hsy ha HS5
    go_wp2_with fail
    refine (all_any w5 A i cap _ HI5.out (by omega)).mono ?_
    rintro e w6 ⟨v6, rfl, hO6, hb6⟩
    rw [Q6.out, Q7.out, show atI (none : Option Nat) = -1 from rfl]
    rw [Q8.out] at hO6
    have HX6 := Lib.hid (HX5.out.below hb6)
    have HY6 := Lib.hid (HY5.out.below hb6)
    have HBw6 := Lib.hid (HBw5.out.trans (hb6.mono HBw5.out.size))
    obtain ⟨A6, c6, rfl, -, hs6, -⟩ := hO6.cut_
    rw [← HLx.out] at hs6
    rw [← HLx.out]
    have kx := con8 (c := cx) HX6.out
    have ky := con8 (c := cy) HY6.out
    have kp := con8 (c := c6) hs6
    generalize (⟨(outD (D.st 0) bs).toArray⟩ : ByteArray) = sx at *
    clear hO6 hb6 hs6 HX6 HY6 HX5 HY5 HI5 HBw5
    go_wp2_with fail
    go_ret
    exact ⟨by simp, HBw6.out⟩

theorem walk (W : World) (A : Option Addr) (n cap : Nat) (bs : List UInt8) (h1 : n ≤ cap) (h2 : cap ≤ maxLen) (hs : Src W A n bs)
    (A2 : Option Addr) (n2 cap2 : Nat) (ms : List UInt8) (h3 : n2 ≤ cap2) (h4 : cap2 ≤ maxLen) (hs2 : Src W A2 n2 ms) :
    Calls Try.prog 6 #[.slice A n cap, .slice A2 n2 cap2] W fun e w' => e = .returned (.bool true) ∧ Below W.heap.size W w' := by
  unfold maxLen at h2 h4
  by_cases h : 3000 < n ∨ 1000 < n2
  · exact walk_out W A n cap A2 n2 cap2 (by omega) (by omega) h
  · exact walk_few W A n cap bs A2 n2 cap2 ms h1 hs hs2 (by omega) (by omega)

set_option maxRecDepth 100000 in
set_option linter.unusedVariables false in
theorem lifted (os : Os) (started : os.Started) (H : Type) (enc : TypeId × Value → H) :
    ReturnsInHanded {} Try.checked os 6 .any (Rows.recordWrongSpec.pre6 enc Try.prog Try.f6 Rows.recordWrongRow.domain false) (Rows.recordWrongSpec.post enc Try.prog Try.f6 false true false false) := by
  refine returnsInHanded_of_change (C := Try.checked) own started (by kernel_rfl) Try.func6
    (ChangeSpec.witness6 (enc := enc) (C := Try.checked) false ⟨#[], #[.slice none 0 0, .slice none 0 0], []⟩ 8 (by kernel_rfl) (by kernel_rfl) (by kernel_rfl) (by kernel_rfl)) ?_
  intro W base args ds gs before hval0 hW hcnd _
  have hval : ∀ (j : Nat) t v, Try.f6.params[j]? = some t → args[j]? = some v → Value.okWide Try.prog W .any base t v := hval0
  have hW' := hW
  obtain ⟨p, q, hA0, hV, rfl, hfz, hnd⟩ := hW
  have hA : DataW.TrodAll enc Try.prog W 0 (fun _ => true) true Try.f6.params.toList args.toList ds p := hA0
  rw [Try.params6] at hA hval
  obtain ⟨v0, vs0, d0, ds0, p0, q0, hargs, rfl, rfl, h0, r0⟩ := trodAll_cons hA
  obtain ⟨v1, vs1, d1, ds1, p1, q1, rfl, rfl, rfl, h1, r1⟩ := trodAll_cons r0
  obtain ⟨rfl, rfl, rfl⟩ := trodAll_nil r1
  obtain rfl : args = #[v0, v1] := by cases args; simp_all
  obtain ⟨rfl, rfl⟩ := trodVars_none hV
  have k0 := h0
  have lt0 : ∀ x ∈ p0, x.block < W.heap.size := by obtain ⟨m, hm⟩ := k0; exact DataW.trod_lt m _ _ _ hm
  obtain ⟨A0, n0, cap0, xs0, rfl, le0, mx0, src0⟩ := open_bytes (hval 0 22 v0 rfl rfl) h0
  have k1 := h1
  have lt1 : ∀ x ∈ p1, x.block < W.heap.size := by obtain ⟨m, hm⟩ := k1; exact DataW.trod_lt m _ _ _ hm
  obtain ⟨A1, n1, cap1, xs1, rfl, le1, mx1, src1⟩ := open_bytes (hval 1 22 v1 rfl rfl) h1
  clear hA0 hval0
  refine (walk W A0 n0 cap0 xs0 le0 mx0 src0 A1 n1 cap1 xs1 le1 mx1 src1).mono fun e W' ⟨he, bel⟩ => ?_
  subst he
  exact ⟨_, rfl, _, _, _, [], _, [], hW', trodAll_mk1 (shut_bool Try.underlying4 _), (trodAll_cons_mk (Below.trod laidOut (by kernel_rfl) (of_decide_eq_true (by kernel_rfl)) k0 bel lt0) (trodAll_cons_mk (Below.trod laidOut (by kernel_rfl) (of_decide_eq_true (by kernel_rfl)) k1 bel lt1) trodAll_mk0)), rfl, bel.frame _, fun h => by cases h⟩

theorem over : Rows.recordWrongRow.holds Try.pinned (OpenSpec.ofChange Rows.recordWrongSpec) :=
  OpenClaim.holds_of_wide 6 Try.f6 rfl rfl rfl rfl rfl rfl rfl ⟨rfl, rfl, rfl, rfl, rfl⟩ rfl rfl rfl rfl rfl (by kernel_rfl) Try.func6 (by kernel_rfl)
    (of_decide_eq_true (by kernel_rfl)) (by unfold Func.isWrapper; first | (rw [if_pos (by decide +kernel)]; kernel_rfl) | (rw [if_neg (by decide +kernel)]; exact ⟨rfl, rfl⟩))
    (fun os started H enc _ => lifted os started H enc)

theorem proved : Rows.RecordWrongSaid := over
#print axioms proved
end Go.Proofs.Ytgjgffiogknefaa.recordWrong
