/-
  'Records behind records are taken apart by themselves' (hagioscopelaw07.RecordParts) holds: whatever the bytes, the size and what stands behind, the call returns true and leaves what was there as it was. No condition.
-/
import Derived.Test.YtgjgffiogknefaaRcSmall
import Derived.Test.YtgjgffiogknefaaRcMore
import Derived.Test.YtgjgffiogknefaaLift
import Derived.Test.YtgjgffiogknefaaLst
import Derived.LoopTactic
namespace Go.Proofs.Ytgjgffiogknefaa.recordParts
open Go.ChangeShapes Go.WideShapes Go.ChangeAt Go.RowKit
open Go.ChangeMaps (open_string shut_string)
open Go.Proofs.Ytgjgffiogknefaa.Wd Go.Proofs.Ytgjgffiogknefaa.Rc Go.Proofs.Ytgjgffiogknefaa.Lift

theorem walk_out (w : World) (A : Option Addr) (n cap : Nat) (size : Int) (A2 : Option Addr) (n2 cap2 : Nat) (hc : n ≤ 9223372036854775807) (hc2 : n2 ≤ 9223372036854775807) (h : 2000 < n ∨ 2000 < n2) :
    Calls Try.prog 7 #[.slice A n cap, .int .i64 size, .slice A2 n2 cap2] w fun e w' => e = .returned (.bool true) ∧ Below w.heap.size w w' := by
  have h' : (2000 : Int) < (n : Int) ∨ ((n : Int) ≤ 2000 ∧ (2000 : Int) < (n2 : Int)) := by omega
  clear h
  rcases h' with h1 | ⟨h1, h2⟩
  all_goals
    go_enter Try.func7, Try.ntmps7
    go_wp2_with fail
    refine (small_any w).mono ?_
    rintro e w1 ⟨rfl, hb1⟩
    have HB1 := Lib.hid hb1
    clear hb1
    go_wp2_with fail
    go_ret
    exact ⟨rfl, HB1.out⟩

set_option maxRecDepth 100000 in
set_option maxHeartbeats 1000000 in
theorem walk_few (w : World) (A : Option Addr) (n cap : Nat) (xs : List UInt8) (size : Int) (A2 : Option Addr) (n2 cap2 : Nat) (bs : List UInt8) (hc : n ≤ cap) (hs : Src w A n xs) (hs2 : Src w A2 n2 bs) (hn : n ≤ 2000) (hn2 : n2 ≤ 2000) :
    Calls Try.prog 7 #[.slice A n cap, .int .i64 size, .slice A2 n2 cap2] w fun e w' => e = .returned (.bool true) ∧ Below w.heap.size w w' := by
  have HS := Lib.hid hs
  have HT := Lib.hid hs2
  have hn1 : (n : Int) ≤ 2000 := by omega
  have hn3 : (n2 : Int) ≤ 2000 := by omega
  have hL := hs.1
  have hL2 := hs2.1
  have HL := Lib.hid hL
  have HL2 := Lib.hid hL2
  obtain ⟨-, hq2⟩ := sizeK_eq size
  have HP := Lib.hid (parts (sizeK size) hq2 xs bs)
  have hfl := frameS_le (sizeK size) hq2 xs
  rw [hL] at hfl
  have HO2 := Lib.hid (outD_len (D.st 0) bs)
  rw [hL2] at HO2
  clear hs hs2 hL hL2 hq2
  go_enter Try.func7, Try.ntmps7
  go_wp2_with fail
  refine (small_any w).mono ?_
  rintro e w1 ⟨rfl, hb1⟩
  have HB1 := Lib.hid hb1
  have HS1 := Lib.hid (HS.out.below hb1)
  have HT1 := Lib.hid (HT.out.below hb1)
  clear hb1 HS HT
  go_wp2_with fail
  refine (frame_any w1 A n cap xs size HS1.out hc (by omega)).mono ?_
  rintro e w2 ⟨v, rfl, hO, hb⟩
  generalize frameS (sizeK size) xs = f at *
  obtain ⟨A3, c3, rfl, hc3, hs3, -⟩ := hO.cut_
  have HB2 := Lib.hid (HB1.out.trans (hb.mono HB1.out.size))
  have HS2 := Lib.hid (HS1.out.below hb)
  have HT2 := Lib.hid (HT1.out.below hb)
  obtain ⟨L, hL⟩ : ∃ L, L = f.length := ⟨_, rfl⟩
  rw [← hL] at hs3 hc3 hfl HP
  rw [← hL]
  have HLL := Lib.hid hL
  have HF2 := Lib.hid (hs3.alloc (.cells #[] 5))
  have HAl := Lib.hid (show Below w2.heap.size w2 (w2.alloc (.cells #[] 5)) from (Below.refl _ _).alloc (Nat.le_refl _) _)
  have HOa := Lib.hid (Own.empty w2 w2.heap.size (Nat.le_refl _))
  have HTW := Lib.hid HT2.out
  clear hO hs3 hb HB1 HS1 HT1 hL
  go_wp2_with (at_builtin; first
    | (refine wpList_app rfl (.tmp 29) (.tmp 30) 22 rfl und8 inf8 w2.heap.size _ [] rfl HOa.out A3 L c3 f rfl HF2.out (by simp; omega) (by simp) ?_; intro v3 w3 HO3 hb3; rw [List.nil_append] at HO3; have HB3 := Lib.hid (HAl.out.trans hb3); have HT3 := Lib.hid (HT2.out.below HB3.out))
    | (refine wpList_app rfl (.tmp 31) (.tmp 32) 22 rfl und8 inf8 w2.heap.size _ f rfl HO3.out A2 n2 cap2 bs rfl HT3.out (by rw [← HLL.out]; omega) HB3.out.size ?_; intro v4 w4 HO4 hb4; have HB4 := Lib.hid (HB3.out.trans hb4); obtain ⟨A4, c4, rfl, -, hs4, -⟩ := HO4.out.cut_; rw [List.length_append, ← HLL.out, HL2.out] at hs4; have HS4 := Lib.hid hs4; rw [List.length_append, ← HLL.out, HL2.out]; clear hs4))
  refine (all_any w4 A4 (L + n2) c4 _ HS4.out (by omega)).mono ?_
  rintro e w5 ⟨v5, rfl, hO5, hb5⟩
  rw [HP.out.2.1, HP.out.2.2]
  rw [HP.out.1] at hO5
  have HB5 := Lib.hid (HB4.out.trans (hb5.mono HB4.out.size))
  have HX5 := Lib.hid (HS2.out.below HB5.out)
  have HT5 := Lib.hid (HTW.out.below HB5.out)
  obtain ⟨A5, c5, rfl, -, hs5, -⟩ := hO5.cut_
  obtain ⟨Lp, hLp⟩ : ∃ Lp, Lp = (xs ++ outD (D.st 0) bs).length := ⟨_, rfl⟩
  rw [← hLp] at hs5
  rw [← hLp]
  have HS5 := Lib.hid hs5
  have HBw5 := Lib.hid (HB2.out.trans (HB5.out.mono HB2.out.size))
  clear hs5 hO5 hb5 HS4 HB4 HB3 HO4 HO3 HT3 HAl HOa HF2 HB5 HB2 HS2 HT2 HTW hLp
  go_wp2_with fail
  refine (all_any w5 A2 n2 cap2 bs HT5.out (by omega)).mono ?_
  rintro e w6 ⟨v6, rfl, hO6, hb6⟩
  have HX6 := Lib.hid (HX5.out.below hb6)
  have HS6 := Lib.hid (HS5.out.below hb6)
  have HBw6 := Lib.hid (HBw5.out.trans (hb6.mono HBw5.out.size))
  obtain ⟨A6, c6, rfl, -, hs6, -⟩ := hO6.cut_
  have kx := con8 (c := cap) HX6.out
  have kp := con8 (c := c5) HS6.out
  have kq := con8 (c := c6) hs6
  obtain ⟨sx, hsx⟩ : ∃ s, s = str8 xs := ⟨_, rfl⟩
  obtain ⟨sq, hsq⟩ : ∃ s, s = str8 (outD (D.st 0) bs) := ⟨_, rfl⟩
  rw [show (⟨xs.toArray⟩ : ByteArray) = sx from hsx.symm] at kx
  rw [show (⟨(outD (D.st 0) bs).toArray⟩ : ByteArray) = sq from hsq.symm] at kq
  rw [show (⟨(xs ++ outD (D.st 0) bs).toArray⟩ : ByteArray) = sx ++ sq from by rw [hsx, hsq, str8_app]; rfl] at kp
  have z1 : sx.size ≤ 2000 := by rw [hsx, str8_size, HL.out]; exact hn
  have z2 : sq.size ≤ 2000 := by rw [hsq, str8_size]; exact Nat.le_trans HO2.out hn2
  have hLl : L ≤ 12000 := by omega
  clear hO6 hb6 hs6 hsx hsq HX6 HS6 HX5 HS5 HT5 HBw5 hfl
  generalize (outD (D.st 0) bs).length = Lq at *
  generalize (runD (D.st 0) bs).e = ev at *
  cases ha : atD (D.st 0) bs with
  | none =>
    rw [show atI (Option.map (· + L) (none : Option Nat)) = -1 from rfl, show atI (none : Option Nat) = -1 from rfl]
    go_wp2_with fail
    go_ret
    exact ⟨by simp, HBw6.out⟩
  | some i =>
    obtain ⟨c, hcc, -, -⟩ := atD_some (d := D.st 0) rfl ha
    have hil := (List.getElem?_eq_some_iff.1 hcc).1
    rw [HL2.out] at hil
    rw [show atI (Option.map (· + L) (some i)) = ((i + L : Nat) : Int) from rfl, show atI (some i) = (i : Int) from rfl]
    have hii : (0 : Int) ≤ (i : Int) := by omega
    have hil2 : i ≤ 2000 := by omega
    clear hcc ha
    go_wp2_with fail
    go_ret
    exact ⟨by simp, HBw6.out⟩

theorem walk (W : World) (A : Option Addr) (n cap : Nat) (xs : List UInt8) (h1 : n ≤ cap) (h2 : cap ≤ maxLen) (hs : Src W A n xs) (size : Int) (_ : -9223372036854775808 ≤ size ∧ size ≤ 9223372036854775807)
    (A2 : Option Addr) (n2 cap2 : Nat) (bs : List UInt8) (h3 : n2 ≤ cap2) (h4 : cap2 ≤ maxLen) (hs2 : Src W A2 n2 bs) :
    Calls Try.prog 7 #[.slice A n cap, .int .i64 size, .slice A2 n2 cap2] W fun e w' => e = .returned (.bool true) ∧ Below W.heap.size W w' := by
  unfold maxLen at h2 h4
  by_cases h : 2000 < n ∨ 2000 < n2
  · exact walk_out W A n cap size A2 n2 cap2 (by omega) (by omega) h
  · exact walk_few W A n cap xs size A2 n2 cap2 bs h1 hs hs2 (by omega) (by omega)

set_option maxRecDepth 100000 in
set_option linter.unusedVariables false in
theorem lifted (os : Os) (started : os.Started) (H : Type) (enc : TypeId × Value → H) :
    ReturnsInHanded {} Try.checked os 7 .any (Rows.recordPartsSpec.pre6 enc Try.prog Try.f7 Rows.recordPartsRow.domain false) (Rows.recordPartsSpec.post enc Try.prog Try.f7 false true false false) := by
  refine returnsInHanded_of_change (C := Try.checked) own started (by kernel_rfl) Try.func7
    (ChangeSpec.witness6 (enc := enc) (C := Try.checked) false ⟨#[], #[.slice none 0 0, .int .i64 0, .slice none 0 0], []⟩ 8 (by kernel_rfl) (by kernel_rfl) (by kernel_rfl) (by kernel_rfl)) ?_
  intro W base args ds gs before hval0 hW hcnd _
  have hval : ∀ (j : Nat) t v, Try.f7.params[j]? = some t → args[j]? = some v → Value.okWide Try.prog W .any base t v := hval0
  have hW' := hW
  obtain ⟨p, q, hA0, hV, rfl, hfz, hnd⟩ := hW
  have hA : DataW.TrodAll enc Try.prog W 0 (fun _ => true) true Try.f7.params.toList args.toList ds p := hA0
  rw [Try.params7] at hA hval
  obtain ⟨v0, vs0, d0, ds0, p0, q0, hargs, rfl, rfl, h0, r0⟩ := trodAll_cons hA
  obtain ⟨v1, vs1, d1, ds1, p1, q1, rfl, rfl, rfl, h1, r1⟩ := trodAll_cons r0
  obtain ⟨v2, vs2, d2, ds2, p2, q2, rfl, rfl, rfl, h2, r2⟩ := trodAll_cons r1
  obtain ⟨rfl, rfl, rfl⟩ := trodAll_nil r2
  obtain rfl : args = #[v0, v1, v2] := by cases args; simp_all
  obtain ⟨rfl, rfl⟩ := trodVars_none hV
  have k0 := h0
  have lt0 : ∀ x ∈ p0, x.block < W.heap.size := by obtain ⟨m, hm⟩ := k0; exact DataW.trod_lt m _ _ _ hm
  obtain ⟨A0, n0, cap0, xs0, rfl, le0, mx0, src0⟩ := open_bytes (hval 0 22 v0 rfl rfl) h0
  have k1 := h1
  have lt1 : ∀ x ∈ p1, x.block < W.heap.size := by obtain ⟨m, hm⟩ := k1; exact DataW.trod_lt m _ _ _ hm
  obtain ⟨a1, rfl, rfl, rfl, w1⟩ := open_int Try.underlying3 (hval 1 3 v1 rfl rfl) h1
  have b1 := int_of w1
  have k2 := h2
  have lt2 : ∀ x ∈ p2, x.block < W.heap.size := by obtain ⟨m, hm⟩ := k2; exact DataW.trod_lt m _ _ _ hm
  obtain ⟨A2, n2, cap2, xs2, rfl, le2, mx2, src2⟩ := open_bytes (hval 2 22 v2 rfl rfl) h2
  clear hA0 hval0
  refine (walk W A0 n0 cap0 xs0 le0 mx0 src0 a1 b1 A2 n2 cap2 xs2 le2 mx2 src2).mono fun e W' ⟨he, bel⟩ => ?_
  subst he
  exact ⟨_, rfl, _, _, _, [], _, [], hW', trodAll_mk1 (shut_bool Try.underlying4 _), (trodAll_cons_mk (Below.trod laidOut (by kernel_rfl) (of_decide_eq_true (by kernel_rfl)) k0 bel lt0) (trodAll_cons_mk (Below.trod laidOut (by kernel_rfl) (of_decide_eq_true (by kernel_rfl)) k1 bel lt1) (trodAll_cons_mk (Below.trod laidOut (by kernel_rfl) (of_decide_eq_true (by kernel_rfl)) k2 bel lt2) trodAll_mk0))), rfl, bel.frame _, fun h => by cases h⟩

theorem over : Rows.recordPartsRow.holds Try.pinned (OpenSpec.ofChange Rows.recordPartsSpec) :=
  OpenClaim.holds_of_wide 7 Try.f7 rfl rfl rfl rfl rfl rfl rfl ⟨rfl, rfl, rfl, rfl, rfl⟩ rfl rfl rfl rfl rfl (by kernel_rfl) Try.func7 (by kernel_rfl)
    (of_decide_eq_true (by kernel_rfl)) (by unfold Func.isWrapper; first | (rw [if_pos (by decide +kernel)]; kernel_rfl) | (rw [if_neg (by decide +kernel)]; exact ⟨rfl, rfl⟩))
    (fun os started H enc _ => lifted os started H enc)

theorem proved : Rows.RecordPartsSaid := over
#print axioms proved
end Go.Proofs.Ytgjgffiogknefaa.recordParts
