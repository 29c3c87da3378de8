/-
  'What is wrapped is whole at its last byte, not ahead, and has the body that it had, whatever comes behind' (hagioscopelaw08.ShakeBack) holds: whatever the bytes, the call returns true and leaves what was there as it was. No condition.
-/
import Derived.Test.YtjbcdagkjonlfaaShSmall
import Derived.Test.YtjbcdagkjonlfaaGi
import Derived.Test.YtjbcdagkjonlfaaLift
import Derived.Deep.RegionHeld
namespace Go.Proofs.Ytjbcdagkjonlfaa.shakeBack
open Go.ChangeShapes Go.WideShapes Go.ChangeAt Go.RowKit
open Go.ChangeMaps (open_string shut_string)
open Go.Proofs.Ytjbcdagkjonlfaa.Wd Go.Proofs.Ytjbcdagkjonlfaa.Sh Go.Proofs.Ytjbcdagkjonlfaa.Lift

theorem walk_out (w : World) (A : Option Addr) (n cap : Nat) (A2 : Option Addr) (n2 cap2 : Nat) (hc : n ≤ 9223372036854775807) (hc2 : n2 ≤ 9223372036854775807) (h : 3000 < n ∨ 100 < n2) :
    Calls Try.prog 5 #[.slice A n cap, .slice A2 n2 cap2] w fun e w' => e = .returned (.bool true) ∧ Below w.heap.size w w' := by
  have h' : (3000 : Int) < (n : Int) ∨ ((n : Int) ≤ 3000 ∧ (100 : Int) < (n2 : Int)) := by omega
  clear h
  rcases h' with h1 | ⟨h1, h2⟩
  all_goals
    go_enter Try.func5, Try.ntmps5
    go_wp2_with fail
    refine (small_any w).mono ?_
    rintro e w1 ⟨rfl, hb1⟩
    have HB := Lib.hid hb1
    clear hb1
    go_wp2_with fail
    go_ret
    exact ⟨rfl, HB.out⟩

set_option maxRecDepth 100000 in
set_option maxHeartbeats 4000000 in
theorem walk_few (w : World) (A : Option Addr) (n cap : Nat) (xs : List UInt8) (A2 : Option Addr) (n2 cap2 : Nat) (ys : List UInt8) (hs : Src w A n xs) (hs2 : Src w A2 n2 ys) (hn : n ≤ 3000) (hn2 : n2 ≤ 100) :
    Calls Try.prog 5 #[.slice A n cap, .slice A2 n2 cap2] w fun e w' => e = .returned (.bool true) ∧ Below w.heap.size w w' := by
  have HL := Lib.hid hs.1
  have HL2 := Lib.hid hs2.1
  have hn1 : (n : Int) ≤ 3000 := by omega
  have hn3 : (n2 : Int) ≤ 100 := by omega
  have HWl := Lib.hid (show (wrapS xs).length = n + 4 from by rw [wrapS_len, hs.1])
  have hxl : xs.length ≤ 16384 := by rw [hs.1]; omega
  have HAt := Lib.hid (wrap_at xs hxl)
  rw [hs.1] at HAt
  have HRun := Lib.hid (show runM M.st ((wrapS xs).take (n + 4)) = ⟨4, n, xs, 0⟩ from by
    rw [List.take_of_length_le (by rw [HWl.out]; exact Nat.le_refl _), run_wrap xs hxl, hs.1])
  go_enter Try.func5, Try.ntmps5
  go_wp2_with fail
  refine (small_any w).mono ?_
  rintro e w1 ⟨rfl, hb1⟩
  have HB1 := Lib.hid hb1
  have HS1 := Lib.hid (hs.below hb1)
  have HT1 := Lib.hid (hs2.below hb1)
  clear hb1 hs hs2 hxl
  go_wp2_with fail
  refine (wrap_yes A n cap xs w1 HS1.out (by omega)).mono ?_
  rintro e w2 ⟨q, rfl, hq, -, hb⟩
  have HB2 := Lib.hid (HB1.out.trans (hb.mono HB1.out.size))
  have HS2 := Lib.hid (HS1.out.below hb)
  have HT2 := Lib.hid (HT1.out.below hb)
  have hqs := Src.of_blk (off := 0) (xs := wrapS xs) hq (fun j c hj => by simpa using cellsOf_get hj)
  rw [HWl.out] at hqs
  have HQ2 := Lib.hid hqs
  clear hq hb HB1 HS1 HT1 hqs
  go_wp2_with fail
  refine (new_kept w2 w2 (Below.refl _ _) (Nat.le_refl _)).mono ?_
  rintro e w3 ⟨g, rfl, hk, -, -⟩
  have HK := Lib.hid hk
  clear hk
  have hadd : IntKind.i64.wrap ((n : Int) + 4) = ((n + 4 : Nat) : Int) := by rw [IntWalk.i64_in _ (by omega)]; omega
  go_wp2_with fail
  go_loopw [9] (fun i wr => ∃ (k : Nat) (p : Option Nat), k ≤ n + 4 ∧ i = .int .i64 (k : Int) ∧ Hid (Kept w2.heap.size w2 wr g p (runM M.st ((wrapS xs).take k)))) (fun i _ => n + 4 - (intOf i).toNat)
  case atStart => exact ⟨0, none, Nat.zero_le _, rfl, HK⟩
  case round =>
    clear HK
    obtain ⟨k, p, hk, rfl, HK⟩ := hrel
    by_cases hlt : k < n + 4
    · have hki : (k : Int) < ((n + 4 : Nat) : Int) := by omega
      obtain ⟨ad, hae, hadb, hc⟩ := HQ2.out.2 (by omega)
      injection hae with hae
      subst hae
      obtain ⟨c, hx⟩ : ∃ c, (wrapS xs)[k]? = some c := ⟨_, List.getElem?_eq_getElem (by have := HWl.out; omega)⟩
      have hcell : wr.cell? ⟨q, k, none⟩ = some (.int .u8 (c.toNat : Int)) := (HK.out.bel.cell (p := ⟨q, k, none⟩) hadb).trans (by have := hc k c hx; rwa [add_none, Nat.zero_add] at this)
      have HR := Lib.hid (run_one (m := M.st) hx)
      obtain ⟨f1, f2, f3⟩ := HAt.out (k + 1) (by omega)
      have F1 := Lib.hid f1
      have F2 := Lib.hid f2
      have F3 := Lib.hid f3
      clear hc hx f1 f2 f3
      go_wp2_with fail
      refine (take_kept HK.out c).mono ?_
      rintro e w4 ⟨rfl, p4, hk4, -, -⟩
      rw [← HR.out] at hk4
      rw [← HR.out, F1.out, F2.out]
      replace HK := Lib.hid hk4
      clear hk4 HR hcell hadb
      by_cases hl : k + 1 = n + 4
      · have hd : decide (k + 1 = n + 4) = true := decide_eq_true hl
        have hd2 : ((k : Int) == (n : Int) + 4 - 1) = true := by rw [beq_iff_eq]; omega
        have hd3 : decide ((k : Int) = (n : Int) + 4 - 1) = true := decide_eq_true (by omega)
        clear F1 F2 F3 hl
        rw [hd]
        go_wp2_with fail
        go_roundw
        case rel => exact ⟨k + 1, p4, by omega, by go_num, HK⟩
        case measure => simp [intOf]; omega
      · have hd : decide (k + 1 = n + 4) = false := decide_eq_false hl
        have hd2 : ((k : Int) == (n : Int) + 4 - 1) = false := by rw [beq_eq_false_iff_ne]; omega
        have hd3 : decide ((k : Int) = (n : Int) + 4 - 1) = false := decide_eq_false (by omega)
        rw [hd]
        rw [if_neg hl] at F3
        clear F1 F2 hl
        go_wp2_with fail
        refine (body_kept HK.out).mono ?_
        rintro e w5 ⟨v, rfl, hO, hk5, -⟩
        rw [F3.out] at hO
        obtain ⟨A5, c5, rfl, -, -, -⟩ := hO.cut_
        rw [show (([] : List UInt8).length) = 0 from rfl]
        replace HK := Lib.hid hk5
        clear hO hk5 F3
        go_wp2_with fail
        go_roundw
        case rel => exact ⟨k + 1, p4, by omega, by go_num, HK⟩
        case measure => simp [intOf]; omega
    · have hkn : k = n + 4 := by omega
      rw [hkn, HRun.out] at HK
      have hge : (n : Int) + 4 ≤ (k : Int) := by omega
      clear hkn hk hlt
      have HOk := Lib.hid HK.out.ok
      have hlen : (M.mk 4 n xs 0).b.length = (M.mk 4 n xs 0).s := HL.out
      have HWm := Lib.hid (show wholeM ⟨4, n, xs, 0⟩ = true from (whole_iff HOk.out).2 ⟨rfl, rfl, hlen⟩)
      have HWn := Lib.hid (show wantM ⟨4, n, xs, 0⟩ = 0 from by
        have h := HWm.out
        unfold wholeM at h
        rw [decide_eq_true_iff] at h
        exact h.2)
      have HBm := Lib.hid (show bodyM ⟨4, n, xs, 0⟩ = xs from by unfold bodyM; rw [if_pos HWm.out])
      have HSt := Lib.hid (fun c => whole_stay HOk.out HWm.out c)
      obtain ⟨m, hm⟩ : ∃ m : M, M.mk 4 n xs 0 = m := ⟨_, rfl⟩
      have HE := Lib.hid (show m.e = 0 from by rw [← hm])
      rw [hm] at HK HOk HWm HWn HBm HSt
      clear hm hlen HAt HRun HQ2 hadd
      go_wp2_with fail
      go_loopw [12] (fun i wr => ∃ (j : Nat) (p : Option Nat), j ≤ n2 ∧ i = .int .i64 (j : Int) ∧ Hid (Kept w2.heap.size w2 wr g p m)) (fun i _ => n2 - (intOf i).toNat)
      case atStart => exact ⟨0, p, Nat.zero_le _, rfl, HK⟩
      case round =>
        clear HK
        obtain ⟨j, p2, hj, rfl, HK⟩ := hrel
        by_cases hlt : j < n2
        · have hji : (j : Int) < (n2 : Int) := by omega
          obtain ⟨ad, rfl, hadb, hc⟩ := HT2.out.2 (by omega)
          obtain ⟨c, hx⟩ : ∃ c, ys[j]? = some c := ⟨_, List.getElem?_eq_getElem (by have := HL2.out; omega)⟩
          have hcell : wr.cell? (ad.add j) = some (.int .u8 (c.toNat : Int)) := (HK.out.bel.cell (by rw [block_of_add]; exact hadb)).trans (hc j c hx)
          clear hc hx
          go_wp2_with fail
          refine (take_kept HK.out c).mono ?_
          rintro e w9 ⟨rfl, p9, hk9, -, -⟩
          rw [HSt.out] at hk9
          rw [HSt.out, HWm.out, HE.out]
          replace HK := Lib.hid hk9
          clear hk9 hcell hadb
          go_wp2_with fail
          go_roundw
          case rel => exact ⟨j + 1, p9, by omega, by go_num, HK⟩
          case measure => simp [intOf]; omega
        · obtain rfl : j = n2 := by omega
          go_wp2_with fail
          refine (body_kept HK.out).mono ?_
          rintro e w9 ⟨v, rfl, hO, hk9, hb9⟩
          rw [HBm.out] at hO
          have hkl := HK.out.hB
          have HG := Lib.hid HK.out.rd.lt
          have HP := Lib.hid (fun b (hb : p2 = some b) => HK.out.rd.plt hb)
          obtain ⟨gi, Agi, cgi, rfl, hgi1, -, hgi2, hAgi, hbuf, hsi⟩ := own_gi hO
          rw [HL.out] at hAgi hbuf hsi
          rw [HL.out]
          replace HK := Lib.hid hk9
          have HBf := Lib.hid (show Buf w9 gi n from hbuf)
          have HA := Lib.hid hAgi
          have hne1 : gi ≠ g := by have := HG.out; omega
          have HNp := Lib.hid (show p2 ≠ some gi from fun e => by have := HP.out _ e; omega)
          have hgw : w2.heap.size ≤ gi := by omega
          have k1 := con8 (c := cgi) hsi
          have k2 := con8 (c := cap) (HS2.out.below (HK.out.bel))
          obtain ⟨s, hs⟩ : ∃ s : ByteArray, (⟨xs.toArray⟩ : ByteArray) = s := ⟨_, rfl⟩
          have HSs := Lib.hid hs
          rw [hs] at k1 k2
          clear hs hO hk9 hb9 hgi1 hgi2 hAgi hbuf hsi HG HP hkl
          go_wp2_with fail
          go_loopw [17] (fun i wi => ∃ j : Nat, j ≤ n ∧ i = .int .i64 (j : Int) ∧ Hid (Kept w2.heap.size w2 wi g p2 m) ∧ Hid (Buf wi gi n)) (fun i _ => n - (intOf i).toNat)
          case atStart => exact ⟨0, Nat.zero_le _, rfl, HK, HBf⟩
          case round =>
            clear HK HBf
            obtain ⟨j, hj, rfl, HK, HBf⟩ := hrel
            by_cases hlt2 : j < n
            · have hji : (j : Int) < (n : Int) := by omega
              obtain ⟨cu, hcb, hcm⟩ := HBf.out (by omega)
              obtain rfl := HA.out (by omega)
              obtain ⟨cv, hcj⟩ : ∃ v, wr.cell? ⟨gi, j, none⟩ = some v := ⟨cu[j]'(by omega), by rw [hcb.cell]; exact Array.getElem?_eq_getElem _⟩
              have hfj := hcb.frozen j
              clear hcb hcm k1 k2
              go_wp2_with fail
              go_roundw
              case rel =>
                have hbt : But [gi] wr (wr.setCell ⟨gi, j, none⟩ (.int .u8 7)) := (But.refl _ _).set_ (p := ⟨gi, j, none⟩) (.inl (by simp)) _
                exact ⟨j + 1, by omega, by go_num, HK.out.beside hbt (by simpa using hne1.symm) (by simpa using HNp.out) (by simpa using hgw), HBf.out.set_ j _⟩
              case measure => simp [intOf]; omega
            · obtain rfl : j = n := by omega
              have kx := con8 (w := wr.drew) (c := cap) (show Src wr.drew A j xs from HS2.out.below (show Below w2.heap.size w2 wr.drew from (HK.out.drewN 1).bel))
              rw [HSs.out] at kx
              have hBw := HB2.out.size
              clear k1 k2
              go_wp2_with fail
              go_region_held (fun w' => (convert 22 9 (.slice A j cap)).run Try.prog w' = .ok (.string s) w')
                (first | exact kx | exact kx4 | exact kx5)
                (first
                  | (go_at_call 15; refine (body_kept (HK.out.drewN 1)).mono ?_; rintro e w10 ⟨v10, rfl, hO10, hk10, -⟩; rw [HBm.out] at hO10; obtain ⟨A10, c10, rfl, -, hs10, -⟩ := hO10.cut_; rw [HL.out] at hs10; rw [HL.out]; have k10 := con8 (c := c10) hs10; rw [HSs.out] at k10; have kx4 := con8 (c := cap) (HS2.out.below hk10.bel); rw [HSs.out] at kx4; have HK10 := Lib.hid hk10; clear hO10 hk10 hs10)
                  | (go_at_call 13; refine (want_kept HK10.out).mono ?_; rintro e w11 ⟨rfl, jq, rfl⟩; rw [HWn.out]; have kx5 := con8 (c := cap) (HS2.out.below (HK10.out.drewN jq).bel); rw [HSs.out] at kx5; have HB11 := Lib.hid (HB2.out.trans ((HK10.out.drewN jq).bel.mono hBw))))
              all_goals
                go_wp2_with fail
                go_ret
                exact ⟨by simp, HB11.out⟩

theorem walk (W : World) (A : Option Addr) (n cap : Nat) (xs : List UInt8) (h1 : n ≤ cap) (h2 : cap ≤ maxLen) (hs : Src W A n xs)
    (A2 : Option Addr) (n2 cap2 : Nat) (ys : List UInt8) (h3 : n2 ≤ cap2) (h4 : cap2 ≤ maxLen) (hs2 : Src W A2 n2 ys) :
    Calls Try.prog 5 #[.slice A n cap, .slice A2 n2 cap2] W fun e w' => e = .returned (.bool true) ∧ Below W.heap.size W w' := by
  unfold maxLen at h2 h4
  by_cases h : 3000 < n ∨ 100 < n2
  · exact walk_out W A n cap A2 n2 cap2 (by omega) (by omega) h
  · exact walk_few W A n cap xs A2 n2 cap2 ys hs hs2 (by omega) (by omega)

set_option maxRecDepth 100000 in
set_option linter.unusedVariables false in
theorem lifted (os : Os) (started : os.Started) (H : Type) (enc : TypeId × Value → H) :
    ReturnsInHanded {} Try.checked os 5 .any (Rows.shakeBackSpec.pre6 enc Try.prog Try.f5 Rows.shakeBackRow.domain false) (Rows.shakeBackSpec.post enc Try.prog Try.f5 false true false false) := by
  refine returnsInHanded_of_change (C := Try.checked) own started (by kernel_rfl) Try.func5
    (ChangeSpec.witness6 (enc := enc) (C := Try.checked) false ⟨#[], #[.slice none 0 0, .slice none 0 0], []⟩ 8 (by kernel_rfl) (by kernel_rfl) (by kernel_rfl) (by kernel_rfl)) ?_
  intro W base args ds gs before hval0 hW hcnd _
  have hval : ∀ (j : Nat) t v, Try.f5.params[j]? = some t → args[j]? = some v → Value.okWide Try.prog W .any base t v := hval0
  have hW' := hW
  obtain ⟨p, q, hA0, hV, rfl, hfz, hnd⟩ := hW
  have hA : DataW.TrodAll enc Try.prog W 0 (fun _ => true) true Try.f5.params.toList args.toList ds p := hA0
  rw [Try.params5] at hA hval
  obtain ⟨v0, vs0, d0, ds0, p0, q0, hargs, rfl, rfl, h0, r0⟩ := trodAll_cons hA
  obtain ⟨v1, vs1, d1, ds1, p1, q1, rfl, rfl, rfl, h1, r1⟩ := trodAll_cons r0
  obtain ⟨rfl, rfl, rfl⟩ := trodAll_nil r1
  obtain rfl : args = #[v0, v1] := by cases args; simp_all
  obtain ⟨rfl, rfl⟩ := trodVars_none hV
  have k0 := h0
  have lt0 : ∀ x ∈ p0, x.block < W.heap.size := by obtain ⟨m, hm⟩ := k0; exact DataW.trod_lt m _ _ _ hm
  obtain ⟨A0, n0, cap0, xs0, rfl, le0, mx0, src0⟩ := open_bytes (hval 0 22 v0 rfl rfl) h0
  have k1 := h1
  have lt1 : ∀ x ∈ p1, x.block < W.heap.size := by obtain ⟨m, hm⟩ := k1; exact DataW.trod_lt m _ _ _ hm
  obtain ⟨A1, n1, cap1, xs1, rfl, le1, mx1, src1⟩ := open_bytes (hval 1 22 v1 rfl rfl) h1
  clear hA0 hval0
  refine (walk W A0 n0 cap0 xs0 le0 mx0 src0 A1 n1 cap1 xs1 le1 mx1 src1).mono fun e W' ⟨he, bel⟩ => ?_
  subst he
  exact ⟨_, rfl, _, _, _, [], _, [], hW', trodAll_mk1 (shut_bool Try.underlying4 _), (trodAll_cons_mk (Below.trod laidOut (by kernel_rfl) (of_decide_eq_true (by kernel_rfl)) k0 bel lt0) (trodAll_cons_mk (Below.trod laidOut (by kernel_rfl) (of_decide_eq_true (by kernel_rfl)) k1 bel lt1) trodAll_mk0)), rfl, bel.frame _, fun h => by cases h⟩

theorem over : Rows.shakeBackRow.holds Try.pinned (OpenSpec.ofChange Rows.shakeBackSpec) :=
  OpenClaim.holds_of_wide 5 Try.f5 rfl rfl rfl rfl rfl rfl rfl ⟨rfl, rfl, rfl, rfl, rfl⟩ rfl rfl rfl rfl rfl (by kernel_rfl) Try.func5 (by kernel_rfl)
    (of_decide_eq_true (by kernel_rfl)) (by unfold Func.isWrapper; first | (rw [if_pos (by decide +kernel)]; kernel_rfl) | (rw [if_neg (by decide +kernel)]; exact ⟨rfl, rfl⟩))
    (fun os started H enc _ => lifted os started H enc)

theorem proved : Rows.ShakeBackSaid := over
#print axioms proved
end Go.Proofs.Ytjbcdagkjonlfaa.shakeBack
