/-
  'What is played is what came, from the first byte on, and may be played again' (hagioscopelaw06.PeekBack) holds: whatever the parts, the numbers and the limit, the call returns true and leaves what was there as it was. No condition.
-/
import Derived.Test.YtnmfgimcclpfbaaPkSmall
import Derived.Test.YtnmfgimcclpfbaaPkRef
import Derived.Test.YtnmfgimcclpfbaaLiftRows
import Derived.Test.YtnmfgimcclpfbaaLst
import Derived.LoopTactic
namespace Go.Proofs.Ytnmfgimcclpfbaa.peekBack
open Go.ChangeShapes Go.WideShapes Go.ChangeAt Go.RowKit
open Go.ChangeMaps (open_string shut_string)
open Go.Proofs.Ytnmfgimcclpfbaa.Wd Go.Proofs.Ytnmfgimcclpfbaa.Pk Go.Proofs.Ytnmfgimcclpfbaa.Lift

set_option maxRecDepth 100000 in
theorem walk_out (w : World) (most : Int) (A : Option Addr) (ln cap : Nat) (A2 : Option Addr) (ln2 cap2 : Nat) (hc : ln ≤ 9223372036854775807) (hc2 : ln2 ≤ 9223372036854775807) (h : 50 < ln ∨ 50 < ln2) :
    Calls Try.prog 4 #[.slice A ln cap, .slice A2 ln2 cap2, .int .i64 most] w fun e w' => e = .returned (.bool true) ∧ Below w.heap.size w w' := by
  have h' : (50 : Int) < (ln : Int) ∨ ((ln : Int) ≤ 50 ∧ (50 : Int) < (ln2 : Int)) := by omega
  clear h
  rcases h' with h1 | ⟨h1, h2⟩
  all_goals
    go_enter Try.func4, Try.ntmps4
    go_wp2_with fail
    refine (small_any w).mono ?_
    rintro e w1 ⟨rfl, hb1⟩
    go_wp2_with fail
    refine (new_kept most w w1 hb1 hb1.size).mono ?_
    rintro e w2 ⟨g, rfl, hr, -⟩
    have HL := Lib.hid hr.bel
    clear hr
    go_wp2_with fail
    go_ret
    exact ⟨rfl, HL.out⟩

theorem came_more (C xb : List UInt8) (M : Nat) : C.take M ++ xb.take (roomK M (C.take M).length xb.length) = (C ++ xb).take M := by
  rw [List.take_append, List.length_take]
  congr 1
  unfold roomK
  by_cases h : C.length ≤ M
  · rw [Nat.min_eq_right h]
    by_cases h2 : xb.length ≤ M - C.length
    · rw [Nat.min_eq_left h2, List.take_length, List.take_of_length_le h2]
    · rw [Nat.min_eq_right (by omega)]
  · rw [show min M C.length = M from by omega, Nat.sub_self, Nat.min_zero, List.take_zero, show M - C.length = 0 from by omega, List.take_zero]
theorem came_over (c M m : Nat) (L : Nat) (hL : L = min M c) : (decide (M < c) || decide (roomK M L m < m)) = decide (M < c + m) := by
  subst hL
  rw [Bool.eq_iff_iff, Bool.or_eq_true, decide_eq_true_iff, decide_eq_true_iff, decide_eq_true_iff]
  unfold roomK
  omega

set_option maxRecDepth 100000 in
set_option maxHeartbeats 1000000 in
theorem walk_few (w : World) (most : Int) (A : Option Addr) (ln cap : Nat) (l : List Sb) (A2 : Option Addr) (ln2 cap2 : Nat) (zs : List Int) (hn : l.length = ln) (hl : SrcRows w A l) (hz : SrcV w A2 ln2 (zs.map (Value.int .i64))) (h1 : ln ≤ 50) (h2 : ln2 ≤ 50) :
    Calls Try.prog 4 #[.slice A ln cap, .slice A2 ln2 cap2, .int .i64 most] w fun e w' => e = .returned (.bool true) ∧ Below w.heap.size w w' := by
  have j1 : (ln : Int) ≤ 50 := by omega
  have j2 : (ln2 : Int) ≤ 50 := by omega
  have HL := Lib.hid hl
  have HN := Lib.hid hn
  have HZ := Lib.hid hz
  have hM := mostR_le most
  clear hl hn hz
  obtain ⟨M1, hM1⟩ : ∃ M : Int, M = if (16384 : Int) < most then 16384 else most := ⟨_, rfl⟩
  have HM1 := Lib.hid hM1
  have HM2 := Lib.hid (most_minmax most M1 hM1)
  clear hM1
  go_enter Try.func4, Try.ntmps4
  go_wp2_with fail
  refine (small_any w).mono ?_
  rintro e w1 ⟨rfl, hb1⟩
  go_wp2_with fail
  refine (new_kept most w w1 hb1 hb1.size).mono ?_
  rintro e w2 ⟨g, rfl, hr, -⟩
  have HR := Lib.hid hr
  clear hr hb1
  generalize mostR most = M at *
  go_wp2_with fail
  go_loopw [9, 10] (fun t i wr => ∃ (k : Nat) (p : Option Nat) (C : List UInt8), k ≤ ln ∧ i = .int .i64 (k : Int) ∧ t = .string (str8 C) ∧ C.length ≤ 1000 * k ∧ Hid (Kept w.heap.size w wr g p M (C.take M) 0 (decide (M < C.length)))) (fun _ i _ => ln - (intOf i).toNat)
  case atStart => exact ⟨0, none, [], Nat.zero_le _, rfl, rfl, Nat.le_refl _, by rw [List.take_nil, show decide (M < ([] : List UInt8).length) = false from decide_eq_false (by simp)]; exact HR⟩
  case round =>
    clear HR
    obtain ⟨k, p, C, hk, rfl, rfl, hC, HR⟩ := hrel
    by_cases hlt : k < ln
    · have hki : (k : Int) < (ln : Int) := by omega
      obtain ⟨x, ag, ao, -, hok, rfl, hag, hc0⟩ := HL.out.get (by rw [HN.out]; exact hlt) HR.out.bel
      have HOK := Lib.hid hok
      clear hok
      obtain ⟨XA, hXA⟩ : ∃ A, A = x.A := ⟨_, rfl⟩
      obtain ⟨m, hxm⟩ : ∃ m, m = x.n := ⟨_, rfl⟩
      obtain ⟨xc, hxc⟩ : ∃ c, c = x.c := ⟨_, rfl⟩
      have HSB := Lib.hid HOK.out.src
      have HNC := Lib.hid HOK.out.nc
      rw [← hXA, ← hxm, ← hxc] at hc0
      rw [← hXA, ← hxm] at HSB
      rw [← hxm, ← hxc] at HNC
      clear hXA hxm hxc HOK
      have HC := Lib.hid (fun w' (h : Below w.heap.size w w') => show w'.cell? ⟨ag, ao + k, none⟩ = some (.slice XA m xc) from (h.cell (p := ⟨ag, _, none⟩) hag).trans ((HR.out.bel.cell (p := ⟨ag, _, none⟩) hag).symm.trans hc0))
      by_cases hm : 1000 < m
      · have hmi : (1000 : Int) < (m : Int) := by omega
        go_wp2_with fail
        go_ret
        exact ⟨rfl, HR.out.bel⟩
      have hmi : (m : Int) ≤ 1000 := by omega
      go_wp2_with fail
      refine (add_kept HR.out hM XA m xc x.b (HSB.out.below HR.out.bel) HNC.out).mono ?_
      rintro e w4 ⟨rfl, p4, hx4, -, -⟩
      have hxl := HSB.out.1
      rw [came_over C.length M m _ (by rw [List.length_take])] at hx4
      have hmore := came_more C x.b M
      rw [hxl] at hmore
      rw [hmore] at hx4
      have HX4 := Lib.hid (show Kept w.heap.size w w4 g p4 M ((C ++ x.b).take M) 0 (decide (M < (C ++ x.b).length)) from by rw [List.length_append, hxl]; exact hx4)
      have hc4 := HC.out _ hx4.bel
      have k4 := con8 (c := xc) (HSB.out.below hx4.bel)
      have HXB := Lib.hid hxl
      have hz1 : (str8 C).size ≤ 50000 := by rw [str8_size]; omega
      obtain ⟨sx, hsx⟩ : ∃ s, s = str8 x.b := ⟨_, rfl⟩
      rw [show (⟨x.b.toArray⟩ : ByteArray) = sx from hsx.symm] at k4
      have hz2 : sx.size ≤ 1000 := by rw [hsx, str8_size, hxl]; omega
      have HSX := Lib.hid hsx
      generalize roomK M (C.take M).length m = km at *
      obtain ⟨sC, hsC⟩ : ∃ s, s = str8 C := ⟨_, rfl⟩
      rw [← hsC] at hz1
      rw [← hsC]
      have HSC := Lib.hid hsC
      clear hmore hx4 hc0 HR hxl hsx hsC
      go_wp2_with fail
      go_roundw
      case rel => exact ⟨k + 1, p4, C ++ x.b, by omega, by go_num, by rw [HSC.out, HSX.out, str8_app], by rw [List.length_append, HXB.out]; omega, HX4⟩
      case measure => simp [intOf]; omega
    obtain rfl : k = ln := by omega
    clear HL
    generalize wr = w5 at *
    have hle := HR.out.le.2
    obtain ⟨bs, hbs⟩ : ∃ bs, bs = C.take M := ⟨_, rfl⟩
    obtain ⟨cs, hcs⟩ : ∃ cs, cs = str8 C := ⟨_, rfl⟩
    obtain ⟨hs, hhs⟩ : ∃ hs, hs = str8 bs := ⟨_, rfl⟩
    obtain ⟨hN, hhN⟩ : ∃ n, n = bs.length := ⟨_, rfl⟩
    have hcz : cs.size = C.length := by rw [hcs, str8_size]
    have hNm : hN = min M C.length := by rw [hhN, hbs, List.length_take]
    have HM3 := Lib.hid (show ((hN : Nat) : Int) = if (M : Int) < (cs.size : Int) then (M : Int) else (cs.size : Int) from by rw [hNm, hcz]; split <;> omega)
    have hex0 : cs.extract 0 hN = hs := by
      rw [hcs, hhs, str8_extract, hNm, hbs]
      congr 1
      rcases Nat.le_total M C.length with h | h
      · rw [Nat.min_eq_left h]
      · rw [Nat.min_eq_right h, List.take_length, List.take_of_length_le h]
    have HOV := Lib.hid (show decide (M < C.length) = decide ((hN : Int) < (cs.size : Int)) from by rw [hcz, decide_eq_decide]; omega)
    rw [HOV.out] at HR
    rw [← hbs] at HR hle
    rw [← hcs]
    have hsz : hs.size = hN := by rw [hhs, str8_size, hhN]
    have hN1 : (hN : Int) ≤ (cs.size : Int) := by omega
    have hN2 : hN ≤ 16384 := by omega
    have hcs5 : cs.size ≤ 50000 := by omega
    have HHS := Lib.hid hhs
    have HHN := Lib.hid hhN
    clear HOV hcs hhs hhN hNm hbs hcz hle
    have HX := HR
    clear HR
    generalize hov : decide ((hN : Int) < (cs.size : Int)) = ov at *
    have HOV := Lib.hid hov
    clear hov
    go_wp2_with (first
      | (with_reducible refine wpList_min2 (some 65) rfl rfl _ _ _ rfl most 16384 M1 rfl rfl HM1.out ?_)
      | (with_reducible refine wpList_max2 (some 66) rfl rfl _ _ _ rfl 0 M1 (M : Int) rfl rfl HM2.out ?_)
      | (with_reducible refine wpList_min2 (some 67) rfl rfl _ _ _ rfl (cs.size : Int) (M : Int) (hN : Int) rfl rfl HM3.out ?_))
    clear HM1 HM2 HM3 hex0
    go_loopw [12] (fun t wr => ∃ r : Nat, r ≤ 2 ∧ t = .int .i64 (r : Int) ∧ Hid (Kept w.heap.size w wr g p M bs 0 ov)) (fun t _ => 2 - (intOf t).toNat)
    case atStart => exact ⟨0, by omega, rfl, HX⟩
    case round =>
    clear HX
    obtain ⟨r, hr, rfl, HX⟩ := hrel
    by_cases hr2 : r < 2
    · have hri : (r : Int) < 2 := by omega
      go_wp2_with fail
      go_loopw [13, 14] (fun s i wr => ∃ j cur : Nat, j ≤ ln2 ∧ i = .int .i64 (j : Int) ∧ s = .string (str8 (bs.take cur)) ∧ cur ≤ hN ∧ Hid (Kept w.heap.size w wr g p M bs cur ov)) (fun _ i _ => ln2 - (intOf i).toNat)
      case atStart => exact ⟨0, 0, by omega, rfl, rfl, by omega, HX⟩
      case round =>
      clear HX
      obtain ⟨j, cur, hj, rfl, rfl, hcur, HX⟩ := hrel
      by_cases hj2 : j < ln2
      · have hji : (j : Int) < (ln2 : Int) := by omega
        obtain ⟨ad2, rfl, hadb, hcz⟩ := HZ.out.at_ hj2
        obtain ⟨z, hz⟩ : ∃ z, zs[j]? = some z := by
          have h1 := HZ.out.1
          rw [List.length_map] at h1
          exact ⟨_, List.getElem?_eq_getElem (by omega)⟩
        rw [List.getElem?_map, hz] at hcz
        have hc1 : wr.cell? (ad2.add j) = some (.int .i64 z) := (HX.out.bel.cell (by rw [block_of_add]; exact hadb)).trans hcz
        clear hcz hz
        go_wp2_with fail
        refine (next_kept HX.out hM z).mono ?_
        rintro e w6 ⟨v6, rfl, ho6, hx6, -⟩
        rw [← HHN.out] at ho6 hx6
        have hk2 := clampK_le z (hN - cur)
        have hl6 : ((bs.drop cur).take (clampK z (hN - cur))).length = clampK z (hN - cur) := by rw [List.length_take, List.length_drop, ← HHN.out]; omega
        have hsum : str8 (bs.take cur) ++ str8 ((bs.drop cur).take (clampK z (hN - cur))) = str8 (bs.take (cur + clampK z (hN - cur))) := by rw [str8_app, List.take_add]
        have hex : hs.extract 0 (cur + clampK z (hN - cur)) = str8 (bs.take cur) ++ str8 ((bs.drop cur).take (clampK z (hN - cur))) := by rw [hsum, HHS.out, str8_extract]
        obtain ⟨A6, c6, rfl, -, hs6, -⟩ := ho6.cut_
        have k6 := con8 (c := c6) hs6
        rw [show (⟨((bs.drop cur).take (clampK z (hN - cur))).toArray⟩ : ByteArray) = str8 ((bs.drop cur).take (clampK z (hN - cur))) from rfl] at k6
        have hz5 : (str8 ((bs.drop cur).take (clampK z (hN - cur)))).size = clampK z (hN - cur) := by rw [str8_size, hl6]
        have hz4 : (str8 (bs.take cur)).size = cur := by rw [str8_size, List.length_take, ← HHN.out]; omega
        have HX6 := Lib.hid hx6
        have HSum := Lib.hid hsum
        rw [hl6] at k6
        rw [hl6]
        clear ho6 hx6 hs6 hl6 HX hsum hc1
        generalize str8 ((bs.drop cur).take (clampK z (hN - cur))) = s5 at *
        generalize str8 (bs.take cur) = s4 at *
        have HLeft := Lib.hid (left_any HX6.out.pk hM)
        rw [← HHN.out] at HLeft
        generalize clampK z (hN - cur) = k2 at *
        have g1 : (cur : Int) + (k2 : Int) ≤ (hN : Int) := by omega
        have g2 : IntKind.i64.wrap ((hN : Int) - ((cur : Int) + (k2 : Int))) = ((hN - (cur + k2) : Nat) : Int) := by rw [IntWalk.i64_in _ (by omega)]; omega
        go_wp2_with fail
        refine HLeft.out.mono ?_
        rintro e w7 ⟨rfl, q7, rfl⟩
        have HX7 := Lib.hid (HX6.out.drewN q7)
        clear HX6 k6 HLeft
        generalize w6.drewN q7 = w7 at *
        go_wp2_with fail
        go_roundw
        case rel => exact ⟨j + 1, cur + k2, by omega, by go_num, by rw [HSum.out], by omega, HX7⟩
        case measure => simp [intOf]; omega
      obtain rfl : j = ln2 := by omega
      go_wp2_with fail
      refine (next_kept HX.out hM 1048576).mono ?_
      rintro e w6 ⟨v6, rfl, ho6, hx6, -⟩
      have hK : clampK 1048576 (bs.length - cur) = bs.length - cur := by
        rw [← HHN.out]
        unfold clampK withI
        rw [if_neg (by omega), if_pos (by omega)]
        omega
      have hT : (bs.drop cur).take (clampK 1048576 (bs.length - cur)) = bs.drop cur := List.take_of_length_le (by rw [hK, List.length_drop]; exact Nat.le_refl _)
      rw [hT] at ho6
      rw [hK] at hx6
      obtain ⟨A6, c6, rfl, -, hs6, -⟩ := ho6.cut_
      have hl6 : (bs.drop cur).length = hN - cur := by rw [List.length_drop, ← HHN.out]
      have k6 := con8 (c := c6) hs6
      rw [show (⟨(bs.drop cur).toArray⟩ : ByteArray) = str8 (bs.drop cur) from rfl, hl6] at k6
      rw [hl6]
      have hq : (str8 (bs.take cur) ++ str8 (bs.drop cur)).toList = hs.toList := by rw [str8_app, List.take_append_drop, HHS.out]
      have hz5 : (str8 (bs.drop cur)).size = hN - cur := by rw [str8_size, hl6]
      have hz4 : (str8 (bs.take cur)).size = cur := by rw [str8_size, List.length_take, ← HHN.out]; omega
      have HX6 := Lib.hid hx6
      have HLeft := Lib.hid (left_any hx6.pk hM)
      rw [show bs.length - (cur + (bs.length - cur)) = 0 from by omega] at HLeft
      clear ho6 hx6 hs6 hl6 HX hK hT
      generalize str8 (bs.drop cur) = s5 at *
      generalize str8 (bs.take cur) = s4 at *
      go_wp2_with fail
      refine HLeft.out.mono ?_
      rintro e w7 ⟨rfl, q7, rfl⟩
      have HX7 := Lib.hid (HX6.out.drewN q7)
      clear HX6 k6 HLeft
      generalize w6.drewN q7 = w7 at *
      go_wp2_with fail
      refine (back_kept HX7.out).mono ?_
      rintro e w8 ⟨rfl, hx8, -⟩
      have HX8 := Lib.hid hx8
      clear hx8 HX7
      go_wp2_with fail
      go_roundw
      case rel => exact ⟨r + 1, by omega, by go_num, HX8⟩
      case measure => simp [intOf]; omega
    obtain rfl : r = 2 := by omega
    go_wp2_with fail
    refine (over_any HX.out.pk).mono ?_
    rintro e w6 ⟨rfl, rfl⟩
    have hov : decide (hN < cs.size) = ov := by rw [← HOV.out, decide_eq_decide]; omega
    have hov2 := HOV.out
    go_wp2_with fail
    refine (bytes_kept HX.out hM).mono ?_
    rintro e w7 ⟨v7, rfl, ho7, hx7, -⟩
    obtain ⟨A7, c7, rfl, -, hs7, -⟩ := ho7.cut_
    have k7 := con8 (c := c7) hs7
    rw [show (⟨bs.toArray⟩ : ByteArray) = hs from HHS.out.symm] at k7
    have HB := Lib.hid hx7.bel
    clear ho7 hx7 hs7 HX
    go_wp2_with fail
    go_ret
    exact ⟨by simp, HB.out⟩

theorem walk (W : World) (A : Option Addr) (ln cap : Nat) (l : List Sb) (_ : ln ≤ cap) (hc : cap ≤ maxLen) (hl : l.length = ln ∧ SrcRows W A l) (A2 : Option Addr) (ln2 cap2 : Nat) (zs : List Int) (_ : ln2 ≤ cap2) (hc2 : cap2 ≤ maxLen)
    (hz : SrcV W A2 ln2 (zs.map (Value.int .i64)) ∧ ∀ z ∈ zs, -9223372036854775808 ≤ z ∧ z ≤ 9223372036854775807) (most : Int) (_ : -9223372036854775808 ≤ most ∧ most ≤ 9223372036854775807) :
    Calls Try.prog 4 #[.slice A ln cap, .slice A2 ln2 cap2, .int .i64 most] W fun e w' => e = .returned (.bool true) ∧ Below W.heap.size W w' := by
  unfold maxLen at hc hc2
  by_cases h : 50 < ln ∨ 50 < ln2
  · exact walk_out W most A ln cap A2 ln2 cap2 (by omega) (by omega) h
  · exact walk_few W most A ln cap l A2 ln2 cap2 zs hl.1 hl.2 hz.1 (by omega) (by omega)

set_option maxRecDepth 100000 in
set_option linter.unusedVariables false in
theorem lifted (os : Os) (started : os.Started) (H : Type) (enc : TypeId × Value → H) :
    ReturnsInHanded {} Try.checked os 4 .any (Rows.peekBackSpec.pre6 enc Try.prog Try.f4 Rows.peekBackRow.domain false) (Rows.peekBackSpec.post enc Try.prog Try.f4 false true false false) := by
  refine returnsInHanded_of_change (C := Try.checked) own started (by kernel_rfl) Try.func4
    (ChangeSpec.witness6 (enc := enc) (C := Try.checked) false ⟨#[], #[.slice none 0 0, .slice none 0 0, .int .i64 0], []⟩ 8 (by kernel_rfl) (by kernel_rfl) (by kernel_rfl) (by kernel_rfl)) ?_
  intro W base args ds gs before hval0 hW hcnd _
  have hval : ∀ (j : Nat) t v, Try.f4.params[j]? = some t → args[j]? = some v → Value.okWide Try.prog W .any base t v := hval0
  have hW' := hW
  obtain ⟨p, q, hA0, hV, rfl, hfz, hnd⟩ := hW
  have hA : DataW.TrodAll enc Try.prog W 0 (fun _ => true) true Try.f4.params.toList args.toList ds p := hA0
  rw [Try.params4] at hA hval
  obtain ⟨v0, vs0, d0, ds0, p0, q0, hargs, rfl, rfl, h0, r0⟩ := trodAll_cons hA
  obtain ⟨v1, vs1, d1, ds1, p1, q1, rfl, rfl, rfl, h1, r1⟩ := trodAll_cons r0
  obtain ⟨v2, vs2, d2, ds2, p2, q2, rfl, rfl, rfl, h2, r2⟩ := trodAll_cons r1
  obtain ⟨rfl, rfl, rfl⟩ := trodAll_nil r2
  obtain rfl : args = #[v0, v1, v2] := by cases args; simp_all
  obtain ⟨rfl, rfl⟩ := trodVars_none hV
  have k0 := h0
  have lt0 : ∀ x ∈ p0, x.block < W.heap.size := by obtain ⟨m, hm⟩ := k0; exact DataW.trod_lt m _ _ _ hm
  obtain ⟨A0, n0, cap0, xs0, rfl, le0, mx0, src0⟩ := open_rows (hval 0 39 v0 rfl rfl) h0
  have k1 := h1
  have lt1 : ∀ x ∈ p1, x.block < W.heap.size := by obtain ⟨m, hm⟩ := k1; exact DataW.trod_lt m _ _ _ hm
  obtain ⟨A1, n1, cap1, xs1, rfl, le1, mx1, src1⟩ := open_i64s (hval 1 40 v1 rfl rfl) h1
  have k2 := h2
  have lt2 : ∀ x ∈ p2, x.block < W.heap.size := by obtain ⟨m, hm⟩ := k2; exact DataW.trod_lt m _ _ _ hm
  obtain ⟨a2, rfl, rfl, rfl, w2⟩ := open_int Try.underlying3 (hval 2 3 v2 rfl rfl) h2
  have b2 := int_of w2
  clear hA0 hval0
  refine (walk W A0 n0 cap0 xs0 le0 mx0 src0 A1 n1 cap1 xs1 le1 mx1 src1 a2 b2).mono fun e W' ⟨he, bel⟩ => ?_
  subst he
  exact ⟨_, rfl, _, _, _, [], _, [], hW', trodAll_mk1 (shut_bool Try.underlying4 _), (trodAll_cons_mk (Below.trod laidOut (by kernel_rfl) (of_decide_eq_true (by kernel_rfl)) k0 bel lt0) (trodAll_cons_mk (Below.trod laidOut (by kernel_rfl) (of_decide_eq_true (by kernel_rfl)) k1 bel lt1) (trodAll_cons_mk (Below.trod laidOut (by kernel_rfl) (of_decide_eq_true (by kernel_rfl)) k2 bel lt2) trodAll_mk0))), rfl, bel.frame _, fun h => by cases h⟩

theorem over : Rows.peekBackRow.holds Try.pinned (OpenSpec.ofChange Rows.peekBackSpec) :=
  OpenClaim.holds_of_wide 4 Try.f4 rfl rfl rfl rfl rfl rfl rfl ⟨rfl, rfl, rfl, rfl, rfl⟩ rfl rfl rfl rfl rfl (by kernel_rfl) Try.func4 (by kernel_rfl)
    (of_decide_eq_true (by kernel_rfl)) (by unfold Func.isWrapper; first | (rw [if_pos (by decide +kernel)]; kernel_rfl) | (rw [if_neg (by decide +kernel)]; exact ⟨rfl, rfl⟩))
    (fun os started H enc _ => lifted os started H enc)

theorem proved : Rows.PeekBackSaid := over
#print axioms proved
end Go.Proofs.Ytnmfgimcclpfbaa.peekBack
