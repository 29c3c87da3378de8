/-
  'There are never more bytes than there is room for, and nothing is refused while there is room' (hagioscopelaw05.RingRoom) holds: whatever the room and the calls, the call returns true and leaves what was there as it was. No condition.
-/
import Derived.Test.YtpdihniimnoeoaaRgFew
import Derived.Test.YtpdihniimnoeoaaRgSmall
import Derived.Deep.RegionHeld
namespace Go.Proofs.Ytpdihniimnoeoaa.ringRoom
open Go.ChangeShapes Go.WideShapes Go.ChangeAt Go.RowKit
open Go.ChangeMaps (open_string shut_string)
open Go.Proofs.Ytpdihniimnoeoaa.Wd Go.Proofs.Ytpdihniimnoeoaa.Rg Go.Proofs.Ytpdihniimnoeoaa.Lift

theorem walk_out (w : World) (room : Int) (A : Option Addr) (ln cap : Nat) (l : List Cl) (hn : l.length = ln) (hc : ln ≤ 9223372036854775807) (hl : SrcL w A l) (hf : fewB l = false) :
    Calls Try.prog 5 #[.int .i64 room, .slice A ln cap] w fun e w' => e = .returned (.bool true) ∧ Below w.heap.size w w' := by
  have HF := Lib.hid hf
  clear hf
  go_enter Try.func5, Try.ntmps5
  go_wp2_with fail
  refine (small_any w).mono ?_
  rintro e w1 ⟨rfl, hb1⟩
  go_wp2_with fail
  refine (few_any w1 A ln cap l hn hc (hl.below hb1)).mono ?_
  rintro e w2 ⟨rfl, rfl⟩
  rw [HF.out]
  go_wp2_with fail
  refine (new_held room w w1 hb1 hb1.size).mono ?_
  rintro e w2 ⟨g, p, rfl, hr, -⟩
  have HL := Lib.hid hr.bel
  clear hr
  go_wp2_with fail
  go_ret
  exact ⟨rfl, HL.out⟩

set_option maxRecDepth 100000 in
set_option maxHeartbeats 1000000 in
theorem walk_few (w : World) (room : Int) (A : Option Addr) (ln cap : Nat) (l : List Cl) (hn : l.length = ln) (hc : ln ≤ 9223372036854775807) (hl : SrcL w A l) (hf : fewB l = true) :
    Calls Try.prog 5 #[.int .i64 room, .slice A ln cap] w fun e w' => e = .returned (.bool true) ∧ Below w.heap.size w w' := by
  have HF := Lib.hid hf
  have hln := (few_len hf).1
  rw [hn] at hln
  have HL := Lib.hid hl
  have HN := Lib.hid hn
  have hR := roomR_le room
  clear hf hl hn
  go_enter Try.func5, Try.ntmps5
  go_wp2_with fail
  refine (small_any w).mono ?_
  rintro e w1 ⟨rfl, hb1⟩
  go_wp2_with fail
  refine (few_any w1 A ln cap l HN.out hc (HL.out.below hb1)).mono ?_
  rintro e w2 ⟨rfl, rfl⟩
  rw [HF.out]
  go_wp2_with fail
  refine (new_held room w w1 hb1 hb1.size).mono ?_
  rintro e w2 ⟨g, p, rfl, hr, -, hg, hp⟩
  have HR := Lib.hid hr
  have hsz := hb1.size
  clear hr hb1
  obtain ⟨M1, hM1⟩ : ∃ M : Int, M = if (65536 : Int) < room then 65536 else room := ⟨_, rfl⟩
  have HM1 := Lib.hid hM1
  have HM2 := Lib.hid (show ((roomR room : Nat) : Int) = if (0 : Int) < M1 then M1 else 0 from by
    rw [hM1]
    unfold roomR clampN withinI
    split
    · split <;> split <;> omega
    · split <;> split <;> omega)
  clear hM1
  generalize roomR room = R at *
  go_wp2_with (first
    | (with_reducible refine wpList_min2 (some 29) rfl rfl _ _ _ rfl room 65536 M1 rfl rfl HM1.out ?_)
    | (with_reducible refine wpList_max2 (some 30) rfl rfl _ _ _ rfl 0 M1 (R : Int) rfl rfl HM2.out ?_))
  clear HM1 HM2
  go_loopw [9] (fun i wr => ∃ (k : Nat) (bs : List UInt8), k ≤ ln ∧ i = .int .i64 (k : Int) ∧ Hid (Held w.heap.size w wr g p R bs)) (fun i _ => ln - (intOf i).toNat)
  case atStart => exact ⟨0, [], Nat.zero_le _, rfl, HR⟩
  case round =>
    clear HR
    obtain ⟨k, bs, hk, rfl, HR⟩ := hrel
    by_cases hlt : k < ln
    · have hki : (k : Int) < (ln : Int) := by omega
      obtain ⟨x, ag, ao, -, hok, rfl, hag, hc0, hc1, hc2⟩ := HL.out.get (by rw [HN.out]; exact hlt) HR.out.bel
      have HOK := Lib.hid hok
      clear hok
      have hle := HR.out.le
      rcases Bool.eq_false_or_eq_true (x.which.tmod 3 == 0) with hw | hw
      · go_wp2_with fail
        refine (free_any g p R bs wr HR.out.rg hR).mono ?_
        rintro e w3 ⟨rfl, q3, rfl⟩
        have HR3 := Lib.hid (HR.out.drewN q3)
        have hd1 : (wr.drewN q3).cell? ⟨ag, ao + k * 3 + 1, none⟩ = some (.slice x.A x.n x.c) := hc1
        have HMin := Lib.hid (show ((roomN R bs.length x.n : Nat) : Int) = if ((R - bs.length : Nat) : Int) < (x.n : Int) then ((R - bs.length : Nat) : Int) else (x.n : Int) from by
          unfold roomN; split <;> omega)
        clear HR hc0 hc1 hc2
        have HD1 := Lib.hid hd1
        generalize wr.drewN q3 = w3 at *
        go_wp2_with fail
        go_region_held_law (fun w' => w'.cell? ⟨ag, ao + k * 3 + 1, none⟩ = some (.slice x.A x.n x.c)) (first | exact hd1 | exact hd4)
          (first
            | (go_at_call 13; refine (push_held (HR3.out.drewN 1) hR x.A x.n x.c x.b (HOK.out.src.below (HR3.out.drewN 1).bel) HOK.out.nc (fun h0 y hy => by have := HOK.out.far h0 y hy; omega)).mono ?_; rintro e w4 ⟨rfl, hr4, hb4⟩; have HR4 := Lib.hid hr4; have hd4 := (hb4.cell (p := ⟨ag, ao + k * 3 + 1, none⟩) (by show ag < w3.heap.size; have := HR3.out.hB; omega) (by simp; omega)).trans hd1; clear hr4 hb4)
            | (refine step_min2 (some 60) rfl rfl _ _ _ rfl (x.n : Int) ((R - bs.length : Nat) : Int) ((roomN R bs.length x.n : Nat) : Int) rfl rfl HMin.out ?_))
        all_goals (
          clear hd4 hd1 HD1 HMin HR3
          obtain ⟨bs4, HR4⟩ : ∃ b, Hid (Held w.heap.size w w4 g p R b) := ⟨_, HR4⟩
          have hl4 := HR4.out.le
          have HFB := Lib.hid (show fullB R bs4.length = ((bs4.length : Int) == (R : Int)) from by
            unfold fullB
            rw [Bool.eq_iff_iff, beq_iff_eq, decide_eq_true_iff]
            omega)
          have hq1 : ((bs4.length : Int) + ((R - bs4.length : Nat) : Int) == (R : Int)) = true := by rw [beq_iff_eq]; omega
          have hq2 : ((bs4.length : Int) + ((R - bs4.length : Nat) : Int) != (R : Int)) = false := by rw [bne, hq1]; rfl
          have hi4 : (bs4.length : Int) ≤ (R : Int) := by omega
          have hi5 : (R : Int) ≤ 65536 := by omega
          have HLen := fun u (h : Held w.heap.size w u g p R bs4) => len_any g p R bs4 u h.rg
          have HFree := fun u (h : Held w.heap.size w u g p R bs4) => free_any g p R bs4 u h.rg hR
          have HFull := fun u (h : Held w.heap.size w u g p R bs4) => full_any g p R bs4 u h.rg hR
          generalize hm4 : bs4.length = m4 at *
          have HM4 := Lib.hid hm4
          clear hm4
          go_wp2_with fail
          refine (HLen _ HR4.out).mono ?_
          rintro e w5 ⟨rfl, rfl⟩
          go_wp2_with fail
          refine (HLen _ HR4.out).mono ?_
          rintro e w5 ⟨rfl, rfl⟩
          go_wp2_with fail
          refine (HLen _ HR4.out).mono ?_
          rintro e w5 ⟨rfl, rfl⟩
          go_wp2_with fail
          refine (HFree _ HR4.out).mono ?_
          rintro e w5 ⟨rfl, q5, rfl⟩
          have HR5 := Lib.hid (HR4.out.drewN q5)
          clear HR4
          generalize w4.drewN q5 = w5 at *
          go_wp2_with fail
          refine (HFull _ HR5.out).mono ?_
          rintro e w6 ⟨rfl, q6, rfl⟩
          rw [HFB.out]
          have HR6 := Lib.hid (HR5.out.drewN q6)
          clear HR5
          generalize w5.drewN q6 = w6 at *
          go_wp2_with fail
          refine (HLen _ HR6.out).mono ?_
          rintro e w7 ⟨rfl, rfl⟩
          go_wp2_with fail
          go_roundw
          case rel => exact ⟨k + 1, _, by omega, by go_num, HR6⟩
          case measure => simp [intOf]; omega)
      · go_wp2_with fail
        refine (len_any g p R bs wr HR.out.rg).mono ?_
        rintro e w3 ⟨rfl, rfl⟩
        have HC := Lib.hid (show (bs.take (clampN x.q bs.length)).length = clampN x.q bs.length from by have := clampN_le x.q bs.length; rw [List.length_take]; omega)
        obtain ⟨M2, hM2⟩ : ∃ M : Int, M = if (bs.length : Int) < x.q then (bs.length : Int) else x.q := ⟨_, rfl⟩
        have HMax := Lib.hid (show ((clampN x.q bs.length : Nat) : Int) = if (0 : Int) < M2 then M2 else 0 from by
          rw [hM2]
          unfold clampN withinI
          split
          · split <;> split <;> omega
          · split <;> split <;> omega)
        have HMin := Lib.hid hM2
        have hd1 : wr.cell? ⟨ag, ao + k * 3 + 2, none⟩ = some (.int .i64 x.q) := hc2
        have HD1 := Lib.hid hd1
        clear hM2 hc0 hc1 hc2
        go_wp2_with fail
        go_region_held_law (fun w' => w'.cell? ⟨ag, ao + k * 3 + 2, none⟩ = some (.int .i64 x.q)) (first | exact hd1 | exact hd4)
          (first
            | (go_at_call 15; refine (pop_held (HR.out.drewN 1) hR x.q).mono ?_; rintro e w4 ⟨o4, rfl, -, hr4, hb4⟩; rw [HC.out]; have HR4 := Lib.hid hr4; have hd4 := (hb4.cell (p := ⟨ag, ao + k * 3 + 2, none⟩) (by show ag < wr.heap.size; have := HR.out.hB; omega) (by simp; omega)).trans hd1; clear hr4 hb4)
            | (refine step_min2 (some 78) rfl rfl _ _ _ rfl x.q (bs.length : Int) M2 rfl rfl HMin.out ?_)
            | (refine step_max2 (some 79) rfl rfl _ _ _ rfl 0 M2 ((clampN x.q bs.length : Nat) : Int) rfl rfl HMax.out ?_))
        all_goals (
          clear hd4 hd1 HD1 HMin HMax HC HR
          obtain ⟨bs4, HR4⟩ : ∃ b, Hid (Held w.heap.size w w4 g p R b) := ⟨_, HR4⟩
          have hl4 := HR4.out.le
          have HFB := Lib.hid (show fullB R bs4.length = ((bs4.length : Int) == (R : Int)) from by
            unfold fullB
            rw [Bool.eq_iff_iff, beq_iff_eq, decide_eq_true_iff]
            omega)
          have hq1 : ((bs4.length : Int) + ((R - bs4.length : Nat) : Int) == (R : Int)) = true := by rw [beq_iff_eq]; omega
          have hq2 : ((bs4.length : Int) + ((R - bs4.length : Nat) : Int) != (R : Int)) = false := by rw [bne, hq1]; rfl
          have hi4 : (bs4.length : Int) ≤ (R : Int) := by omega
          have hi5 : (R : Int) ≤ 65536 := by omega
          have HLen := fun u (h : Held w.heap.size w u g p R bs4) => len_any g p R bs4 u h.rg
          have HFree := fun u (h : Held w.heap.size w u g p R bs4) => free_any g p R bs4 u h.rg hR
          have HFull := fun u (h : Held w.heap.size w u g p R bs4) => full_any g p R bs4 u h.rg hR
          generalize hm4 : bs4.length = m4 at *
          have HM4 := Lib.hid hm4
          clear hm4
          go_wp2_with fail
          refine (HLen _ HR4.out).mono ?_
          rintro e w5 ⟨rfl, rfl⟩
          go_wp2_with fail
          refine (HLen _ HR4.out).mono ?_
          rintro e w5 ⟨rfl, rfl⟩
          go_wp2_with fail
          refine (HLen _ HR4.out).mono ?_
          rintro e w5 ⟨rfl, rfl⟩
          go_wp2_with fail
          refine (HFree _ HR4.out).mono ?_
          rintro e w5 ⟨rfl, q5, rfl⟩
          have HR5 := Lib.hid (HR4.out.drewN q5)
          clear HR4
          generalize w4.drewN q5 = w5 at *
          go_wp2_with fail
          refine (HFull _ HR5.out).mono ?_
          rintro e w6 ⟨rfl, q6, rfl⟩
          rw [HFB.out]
          have HR6 := Lib.hid (HR5.out.drewN q6)
          clear HR5
          generalize w5.drewN q6 = w6 at *
          go_wp2_with fail
          refine (HLen _ HR6.out).mono ?_
          rintro e w7 ⟨rfl, rfl⟩
          go_wp2_with fail
          go_roundw
          case rel => exact ⟨k + 1, _, by omega, by go_num, HR6⟩
          case measure => simp [intOf]; omega)
    · obtain rfl : k = ln := by omega
      go_wp2_with fail
      go_ret
      exact ⟨rfl, HR.out.bel⟩

theorem walk (W : World) (room : Int) (_ : -9223372036854775808 ≤ room ∧ room ≤ 9223372036854775807) (A : Option Addr) (ln cap : Nat) (l : List Cl) (hle : ln ≤ cap) (hc : cap ≤ maxLen) (hn : l.length = ln) (hl : SrcL W A l) :
    Calls Try.prog 5 #[.int .i64 room, .slice A ln cap] W fun e w' => e = .returned (.bool true) ∧ Below W.heap.size W w' := by
  unfold maxLen at hc
  cases hf : fewB l with
  | true => exact walk_few W room A ln cap l hn (by omega) hl hf
  | false => exact walk_out W room A ln cap l hn (by omega) hl hf

set_option maxRecDepth 100000 in
set_option linter.unusedVariables false in
theorem lifted (os : Os) (started : os.Started) (H : Type) (enc : TypeId × Value → H) :
    ReturnsInHanded {} Try.checked os 5 .any (Rows.ringRoomSpec.pre6 enc Try.prog Try.f5 Rows.ringRoomRow.domain false) (Rows.ringRoomSpec.post enc Try.prog Try.f5 false true false false) := by
  refine returnsInHanded_of_change_sized (C := Try.checked) own started (by kernel_rfl) Try.func5
    (ChangeSpec.witness6 (enc := enc) (C := Try.checked) false ⟨#[], #[.int .i64 0, .slice none 0 0], []⟩ 8 (by kernel_rfl) (by kernel_rfl) (by kernel_rfl) (by kernel_rfl)) ?_
  intro W base args ds gs before hval0 hW hcnd hsz0 _
  have hval : ∀ (j : Nat) t v, Try.f5.params[j]? = some t → args[j]? = some v → Value.okWide Try.prog W .any base t v := hval0
  have hW' := hW
  obtain ⟨p, q, hA0, hV, rfl, hfz, hnd⟩ := hW
  have hA : DataW.TrodAll enc Try.prog W 0 (fun _ => true) true Try.f5.params.toList args.toList ds p := hA0
  have hsz : (DataW.weightsEach Try.prog (Try.f5.params.toList ++ Rows.ringRoomSpec.plain.varTypes Try.prog) (ds ++ gs)).all (· ≤ reachBytes) = true := hsz0
  rw [Try.params5] at hA hval hsz
  obtain ⟨v0, vs0, d0, ds0, p0, q0, hargs, rfl, rfl, h0, r0⟩ := trodAll_cons hA
  obtain ⟨v1, vs1, d1, ds1, p1, q1, rfl, rfl, rfl, h1, r1⟩ := trodAll_cons r0
  obtain ⟨rfl, rfl, rfl⟩ := trodAll_nil r1
  obtain rfl : args = #[v0, v1] := by cases args; simp_all
  obtain ⟨rfl, rfl⟩ := trodVars_none hV
  have k0 := h0
  have lt0 : ∀ x ∈ p0, x.block < W.heap.size := by obtain ⟨m, hm⟩ := k0; exact DataW.trod_lt m _ _ _ hm
  obtain ⟨a0, rfl, rfl, rfl, w0⟩ := open_int Try.underlying3 (hval 0 3 v0 rfl rfl) h0
  have b0 := int_of w0
  have k1 := h1
  have lt1 : ∀ x ∈ p1, x.block < W.heap.size := by obtain ⟨m, hm⟩ := k1; exact DataW.trod_lt m _ _ _ hm
  obtain ⟨A1, n1, cap1, xs1, rfl, le1, mx1, ln1, src1⟩ := open_calls (hval 1 22 v1 rfl rfl) h1 (reach_at hsz (j := 1) (t := 22) rfl rfl)
  clear hA0 hval0 hsz0
  refine (walk W a0 b0 A1 n1 cap1 xs1 le1 mx1 ln1 src1).mono fun e W' ⟨he, bel⟩ => ?_
  subst he
  exact ⟨_, rfl, _, _, _, [], _, [], hW', trodAll_mk1 (shut_bool Try.underlying4 _), (trodAll_cons_mk (Below.trod laidOut (by kernel_rfl) (of_decide_eq_true (by kernel_rfl)) k0 bel lt0) (trodAll_cons_mk (Below.trod laidOut (by kernel_rfl) (of_decide_eq_true (by kernel_rfl)) k1 bel lt1) trodAll_mk0)), rfl, bel.frame _, fun h => by cases h⟩

theorem over : Rows.ringRoomRow.holds Try.pinned (OpenSpec.ofChange Rows.ringRoomSpec) :=
  OpenClaim.holds_of_wide 5 Try.f5 rfl rfl rfl rfl rfl rfl rfl ⟨rfl, rfl, rfl, rfl, rfl⟩ rfl rfl rfl rfl rfl (by kernel_rfl) Try.func5 (by kernel_rfl)
    (of_decide_eq_true (by kernel_rfl)) (by unfold Func.isWrapper; first | (rw [if_pos (by decide +kernel)]; kernel_rfl) | (rw [if_neg (by decide +kernel)]; exact ⟨rfl, rfl⟩))
    (fun os started H enc _ => lifted os started H enc)

theorem proved : Rows.RingRoomSaid := over
#print axioms proved
end Go.Proofs.Ytpdihniimnoeoaa.ringRoom
