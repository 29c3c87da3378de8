/-
  'How many records bytes are framed in, and how long they are' (hagioscopelaw07.RecordCount) holds: whatever the bytes and the size, the call returns true and leaves what was there as it was. No condition.
-/
import Derived.Test.YtgjgffiogknefaaRcSmall
import Derived.Test.YtgjgffiogknefaaLift
import Derived.LoopTactic
namespace Go.Proofs.Ytgjgffiogknefaa.recordCount
open Go.ChangeShapes Go.WideShapes Go.ChangeAt Go.RowKit
open Go.ChangeMaps (open_string shut_string)
open Go.Proofs.Ytgjgffiogknefaa.Wd Go.Proofs.Ytgjgffiogknefaa.Rc Go.Proofs.Ytgjgffiogknefaa.Lift

theorem walk_out (w : World) (A : Option Addr) (n cap : Nat) (size : Int) (hc : n ≤ 9223372036854775807) (h : 3000 < n ∨ size < 1 ∨ 16384 < size) :
    Calls Try.prog 8 #[.slice A n cap, .int .i64 size] w fun e w' => e = .returned (.bool true) ∧ Below w.heap.size w w' := by
  have h' : (3000 : Int) < (n : Int) ∨ ((n : Int) ≤ 3000 ∧ size < 1) ∨ ((n : Int) ≤ 3000 ∧ 1 ≤ size ∧ 16384 < size) := by omega
  clear h
  rcases h' with h1 | ⟨h1, h2⟩ | ⟨h1, h2, h3⟩
  all_goals
    go_enter Try.func8, Try.ntmps8
    go_wp2_with fail
    refine (small_any w).mono ?_
    rintro e w1 ⟨rfl, hb1⟩
    have HB1 := Lib.hid hb1
    clear hb1
    go_wp2_with fail
    go_ret
    exact ⟨rfl, HB1.out⟩

theorem sizeK_in (m : Nat) (h : m + 1 ≤ 16384) : sizeK ((m : Int) + 1) = m := by
  unfold sizeK withI
  rw [if_neg (by omega), if_neg (by omega)]
  omega

set_option maxRecDepth 100000 in
set_option maxHeartbeats 1000000 in
theorem walk_few (w : World) (A : Option Addr) (n cap : Nat) (xs : List UInt8) (m : Nat) (hc : n ≤ cap) (hs : Src w A n xs) (hn : n ≤ 3000) (hm : m + 1 ≤ 16384) :
    Calls Try.prog 8 #[.slice A n cap, .int .i64 ((m : Int) + 1)] w fun e w' => e = .returned (.bool true) ∧ Below w.heap.size w w' := by
  have HS := Lib.hid hs
  have HL := Lib.hid hs.1
  have hn1 : (n : Int) ≤ 3000 := by omega
  have hm1 : (m : Int) + 1 ≤ 16384 := by omega
  have hm2 : (1 : Int) ≤ (m : Int) + 1 := by omega
  have HK := Lib.hid (sizeK_in m hm)
  have HF := Lib.hid (frameS_len m hm xs)
  obtain ⟨r1, -, -⟩ := run_frame m hm xs.length xs 0 (Nat.le_refl _)
  have HR := Lib.hid r1
  have hrl := recsN_le m xs
  rw [hs.1] at hrl
  obtain ⟨q, hq⟩ : ∃ q, q = recsN m xs := ⟨_, rfl⟩
  have hq2 : q = (n + m) / (m + 1) := by rw [hq, recsN, hs.1]
  rw [← hq] at hrl HF HR
  rw [hs.1] at HF
  have hq3 : Int.tdiv ((n : Int) + ((m : Int) + 1) - 1) ((m : Int) + 1) = (q : Int) := by
    rw [show (n : Int) + ((m : Int) + 1) - 1 = ((n + m : Nat) : Int) from by omega, show (m : Int) + 1 = ((m + 1 : Nat) : Int) from by omega, hq2]
    rfl
  clear r1 hs hq hq2
  go_enter Try.func8, Try.ntmps8
  go_wp2_with fail
  refine (small_any w).mono ?_
  rintro e w1 ⟨rfl, hb1⟩
  have HB1 := Lib.hid hb1
  have HS1 := Lib.hid (HS.out.below hb1)
  clear hb1 HS
  go_wp2_with fail
  refine (frame_any w1 A n cap xs _ HS1.out hc (by omega)).mono ?_
  rw [HK.out]
  rintro e w2 ⟨v, rfl, hO, hb⟩
  obtain ⟨A2, c2, rfl, hc2, hs2, -⟩ := hO.cut_
  have HB2 := Lib.hid (HB1.out.trans (hb.mono HB1.out.size))
  obtain ⟨L, hL⟩ : ∃ L, L = (frameS m xs).length := ⟨_, rfl⟩
  rw [← hL] at hs2 hc2 HF
  rw [← hL]
  have HS2 := Lib.hid hs2
  have HLL := Lib.hid hL
  clear hO hs2 hb HB1 HS1 hL
  go_wp2_with fail
  refine (new_any w2).mono ?_
  rintro e w3 ⟨rfl, hr3, hb3⟩
  have HB3 := Lib.hid (HB2.out.trans (hb3.mono HB2.out.size))
  have HS3 := Lib.hid (HS2.out.below hb3)
  have HG := Lib.hid (fun (h : 0 < L) => src_lt HS2.out h)
  have HR3 := Lib.hid hr3
  have hwg : w.heap.size ≤ w2.heap.size := HB2.out.size
  clear hr3 hb3 HB2 HS2
  generalize w2.heap.size = g at *
  have hlen := HF.out
  have hle : (L : Int) = (n : Int) + 5 * (q : Int) := by omega
  clear hlen
  go_wp2_with fail
  clear hle hq3
  generalize hfr : frameS m xs = f at *
  clear hfr
  go_loopw [9] (fun i wr => ∃ k : Nat, k ≤ L ∧ i = .int .i64 (k : Int) ∧ Hid (Src wr A2 L f) ∧ Hid (Rd wr g (runD (D.st 0) (f.take k))) ∧ Hid (Below w.heap.size w wr)) (fun i _ => L - (intOf i).toNat)
  case atStart => exact ⟨0, Nat.zero_le _, rfl, HS3, HR3, HB3⟩
  case round =>
    clear HS3 HR3 HB3
    obtain ⟨k, hk, rfl, HS, HRd, HB⟩ := hrel
    have hLn : L ≤ 1000000 := by have := HF.out; omega
    by_cases hlt : k < L
    · have hki : (k : Int) < (L : Int) := by omega
      have HA := Lib.hid (HG.out (by omega))
      obtain ⟨ad, rfl, hadb, hcl⟩ := HS.out.2 (by omega)
      obtain ⟨c, hx⟩ : ∃ c, f[k]? = some c := ⟨_, List.getElem?_eq_getElem (by have := HLL.out; omega)⟩
      have hcell : wr.cell? (ad.add k) = some (.int .u8 (c.toNat : Int)) := hcl k c hx
      have HX := Lib.hid hx
      have hnn := Lib.hid (runD_n (D.st 0) (f.take k))
      clear hcl hx
      go_wp2_with fail
      refine (take_any HRd.out (runD_ok (OkD.st 0) _) (by have h := hnn.out; rw [List.length_take] at h; have : (D.st 0).n = 0 := rfl; omega) c).mono ?_
      rintro e w4 ⟨rfl, hr4, hb4⟩
      have HR4 := Lib.hid (show Rd w4 g (runD (D.st 0) (f.take (k + 1))) from by rw [run_one HX.out]; exact hr4)
      have HB4 := Lib.hid (HB.out.trans (hb4.below (by simpa using hwg) HB.out.size))
      have HS4 := Lib.hid (HS.out.but hb4 (fun _ x hx => by have := HA.out x hx; simp; omega))
      clear hr4 hb4 HS HRd HB hcell
      go_wp2_with fail
      go_roundw
      case rel => exact ⟨k + 1, by omega, by go_num, HS4, HR4, HB4⟩
      case measure => simp [intOf]; omega
    obtain rfl : k = L := by omega
    have ht : f.take k = f := List.take_of_length_le (by rw [HLL.out]; exact Nat.le_refl _)
    rw [ht, HR.out] at HRd
    have hq0 : (((D.st (0 + q)).n : Nat) : Int) = (q : Int) := by show ((0 + q : Nat) : Int) = _; omega
    clear ht
    go_wp2_with fail
    refine (count_any HRd.out).mono ?_
    rintro e w4 ⟨rfl, rfl⟩
    rw [hq0]
    go_wp2_with fail
    refine (open_any HRd.out).mono ?_
    rintro e w4 ⟨rfl, rfl⟩
    rw [show decide ((D.st (0 + q)).e = 0 ∧ (D.st (0 + q)).a ≠ 0) = false from rfl]
    go_wp2_with fail
    go_ret
    exact ⟨by simp, HB.out⟩

theorem walk (W : World) (A : Option Addr) (n cap : Nat) (xs : List UInt8) (h1 : n ≤ cap) (h2 : cap ≤ maxLen) (hs : Src W A n xs) (size : Int) (_ : -9223372036854775808 ≤ size ∧ size ≤ 9223372036854775807) :
    Calls Try.prog 8 #[.slice A n cap, .int .i64 size] W fun e w' => e = .returned (.bool true) ∧ Below W.heap.size W w' := by
  unfold maxLen at h2
  by_cases h : 3000 < n ∨ size < 1 ∨ 16384 < size
  · exact walk_out W A n cap size (by omega) h
  · obtain ⟨m, rfl⟩ : ∃ m : Nat, size = (m : Int) + 1 := ⟨(size - 1).toNat, by omega⟩
    exact walk_few W A n cap xs m h1 hs (by omega) (by omega)

set_option maxRecDepth 100000 in
set_option linter.unusedVariables false in
theorem lifted (os : Os) (started : os.Started) (H : Type) (enc : TypeId × Value → H) :
    ReturnsInHanded {} Try.checked os 8 .any (Rows.recordCountSpec.pre6 enc Try.prog Try.f8 Rows.recordCountRow.domain false) (Rows.recordCountSpec.post enc Try.prog Try.f8 false true false false) := by
  refine returnsInHanded_of_change (C := Try.checked) own started (by kernel_rfl) Try.func8
    (ChangeSpec.witness6 (enc := enc) (C := Try.checked) false ⟨#[], #[.slice none 0 0, .int .i64 0], []⟩ 8 (by kernel_rfl) (by kernel_rfl) (by kernel_rfl) (by kernel_rfl)) ?_
  intro W base args ds gs before hval0 hW hcnd _
  have hval : ∀ (j : Nat) t v, Try.f8.params[j]? = some t → args[j]? = some v → Value.okWide Try.prog W .any base t v := hval0
  have hW' := hW
  obtain ⟨p, q, hA0, hV, rfl, hfz, hnd⟩ := hW
  have hA : DataW.TrodAll enc Try.prog W 0 (fun _ => true) true Try.f8.params.toList args.toList ds p := hA0
  rw [Try.params8] at hA hval
  obtain ⟨v0, vs0, d0, ds0, p0, q0, hargs, rfl, rfl, h0, r0⟩ := trodAll_cons hA
  obtain ⟨v1, vs1, d1, ds1, p1, q1, rfl, rfl, rfl, h1, r1⟩ := trodAll_cons r0
  obtain ⟨rfl, rfl, rfl⟩ := trodAll_nil r1
  obtain rfl : args = #[v0, v1] := by cases args; simp_all
  obtain ⟨rfl, rfl⟩ := trodVars_none hV
  have k0 := h0
  have lt0 : ∀ x ∈ p0, x.block < W.heap.size := by obtain ⟨m, hm⟩ := k0; exact DataW.trod_lt m _ _ _ hm
  obtain ⟨A0, n0, cap0, xs0, rfl, le0, mx0, src0⟩ := open_bytes (hval 0 22 v0 rfl rfl) h0
  have k1 := h1
  have lt1 : ∀ x ∈ p1, x.block < W.heap.size := by obtain ⟨m, hm⟩ := k1; exact DataW.trod_lt m _ _ _ hm
  obtain ⟨a1, rfl, rfl, rfl, w1⟩ := open_int Try.underlying3 (hval 1 3 v1 rfl rfl) h1
  have b1 := int_of w1
  clear hA0 hval0
  refine (walk W A0 n0 cap0 xs0 le0 mx0 src0 a1 b1).mono fun e W' ⟨he, bel⟩ => ?_
  subst he
  exact ⟨_, rfl, _, _, _, [], _, [], hW', trodAll_mk1 (shut_bool Try.underlying4 _), (trodAll_cons_mk (Below.trod laidOut (by kernel_rfl) (of_decide_eq_true (by kernel_rfl)) k0 bel lt0) (trodAll_cons_mk (Below.trod laidOut (by kernel_rfl) (of_decide_eq_true (by kernel_rfl)) k1 bel lt1) trodAll_mk0)), rfl, bel.frame _, fun h => by cases h⟩

theorem over : Rows.recordCountRow.holds Try.pinned (OpenSpec.ofChange Rows.recordCountSpec) :=
  OpenClaim.holds_of_wide 8 Try.f8 rfl rfl rfl rfl rfl rfl rfl ⟨rfl, rfl, rfl, rfl, rfl⟩ rfl rfl rfl rfl rfl (by kernel_rfl) Try.func8 (by kernel_rfl)
    (of_decide_eq_true (by kernel_rfl)) (by unfold Func.isWrapper; first | (rw [if_pos (by decide +kernel)]; kernel_rfl) | (rw [if_neg (by decide +kernel)]; exact ⟨rfl, rfl⟩))
    (fun os started H enc _ => lifted os started H enc)

theorem proved : Rows.RecordCountSaid := over
#print axioms proved
end Go.Proofs.Ytgjgffiogknefaa.recordCount
