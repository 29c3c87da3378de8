/-
  ExtsPuts: what is put is what the document's own answers say: any name, protocols, versions. No condition.
-/
import Derived.Test.YtajmdchidmamcaaExSmall
import Derived.Test.YtajmdchidmamcaaErPutP
import Derived.Test.YtajmdchidmamcaaExLift
namespace Go.Proofs.Ytajmdchidmamcaa.extsPuts
open Go.ChangeMaps (open_string shut_string)
open Go.ChangeShapes Go.WideShapes Go.ChangeAt Go.RowKit Go.Proofs.Ytajmdchidmamcaa.Wd Go.Proofs.Ytajmdchidmamcaa.Be Go.Proofs.Ytajmdchidmamcaa.He Go.Proofs.Ytajmdchidmamcaa.Ro Go.Proofs.Ytajmdchidmamcaa.Ex Go.Proofs.Ytajmdchidmamcaa.Lift

set_option maxRecDepth 100000 in
set_option maxHeartbeats 4000000 in
theorem walk (w : World) (s : ByteArray) (_ : s.size ≤ maxLen) (A1 : Option Addr) (n1 k1 : Nat) (l : List (List UInt8)) (_ : n1 ≤ k1) (_ : k1 ≤ maxLen) (hl : SrcE w elS A1 l ∧ l.length = n1 ∧ ∀ x ∈ l, x.length ≤ 9223372036854775807)
    (A2 : Option Addr) (n2 k2 : Nat) (v : List Int) (_ : n2 ≤ k2) (_ : k2 ≤ maxLen) (hv : SrcE w elI A2 v ∧ v.length = n2) :
    Calls Try.prog 4 #[.string s, .slice A1 n1 k1, .slice A2 n2 k2] w fun e w' => e = .returned (.bool true) ∧ Below w.heap.size w w' := by
  obtain ⟨x, rfl⟩ : ∃ x, s = str8 x := ⟨lst s, (lst_inj (lst_str8 _)).symm⟩
  obtain ⟨N, hN⟩ : ∃ N, x.length = N := ⟨_, rfl⟩
  have hsz : (str8 x).size = N := hN
  have HX := Lib.hid hN
  obtain ⟨hl1, hl2, _⟩ := hl
  obtain ⟨hv1, hv2⟩ := hv
  have HS := Lib.hid hl1
  have HV := Lib.hid hv1
  have HLn := Lib.hid hl2
  have HVn := Lib.hid hv2
  obtain ⟨s, hs⟩ : ∃ s, str8 x = s := ⟨_, rfl⟩
  have HSt := Lib.hid hs
  rw [hs] at hsz ⊢
  clear hN hl1 hl2 hv1 hv2 hs
  by_cases hN : 1000 < N
  · have hd : decide ((1000 : Int) < (N : Int)) = true := decide_eq_true (by omega)
    go_enter Try.func4, Try.ntmps4
    go_wp2_with fail
    refine (small_any w).mono ?_
    rintro e w1 ⟨rfl, hb1⟩
    go_wp2_with fail
    go_ret
    exact ⟨rfl, hb1⟩
  have hdN : decide ((1000 : Int) < (N : Int)) = false := decide_eq_false (by omega)
  by_cases h1 : 50 < n1
  · have hd : decide ((50 : Int) < (n1 : Int)) = true := decide_eq_true (by omega)
    go_enter Try.func4, Try.ntmps4
    go_wp2_with fail
    refine (small_any w).mono ?_
    rintro e w1 ⟨rfl, hb1⟩
    go_wp2_with fail
    go_ret
    exact ⟨rfl, hb1⟩
  have hd1 : decide ((50 : Int) < (n1 : Int)) = false := decide_eq_false (by omega)
  by_cases h2 : 300 < n2
  · have hd : (300 : Int) < (n2 : Int) := by omega
    go_enter Try.func4, Try.ntmps4
    go_wp2_with fail
    refine (small_any w).mono ?_
    rintro e w1 ⟨rfl, hb1⟩
    go_wp2_with fail
    go_ret
    exact ⟨rfl, hb1⟩
  have hd2 : ¬ (300 : Int) < (n2 : Int) := by omega
  go_enter Try.func4, Try.ntmps4
  go_wp2_with fail
  refine (small_any w).mono ?_
  rintro e w1 ⟨rfl, hb1⟩
  have HB1 := Lib.hid hb1
  clear hb1
  go_wp2_with fail
  clear hdN hd1 hd2
  go_loopw [8] (fun i wr => ∃ k, k ≤ n1 ∧ i = .int .i64 (k : Int) ∧ Hid (∀ x ∈ l.take k, x.length ≤ 500) ∧ Hid (Below w.heap.size w wr)) (fun i _ => n1 - (intOf i).toNat)
  case atStart => exact ⟨0, Nat.zero_le _, rfl, Lib.hid (by simp), HB1⟩
  case round =>
    clear HB1
    obtain ⟨k, hk, rfl, HA, HB⟩ := hrel
    by_cases hlt : k < n1
    · have hki : (k : Int) < (n1 : Int) := by omega
      obtain ⟨y, hy⟩ : ∃ y, l[k]? = some y := ⟨_, List.getElem?_eq_getElem (by have := HLn.out; omega)⟩
      obtain ⟨g, o, hA, hg, hc⟩ := HS.out k y hy
      have hc0 : wr.cell? ⟨g, o + k, none⟩ = some (.string (str8 y)) := (HB.out.cell (p := ⟨g, _, none⟩) hg).trans (by have := hc 0 _ rfl; simpa [elS] using this)
      rw [hA]
      have HY := Lib.hid hy
      obtain ⟨m, hm⟩ : ∃ m, (str8 y).size = m := ⟨_, rfl⟩
      have HM := Lib.hid hm
      clear hA hc hy
      by_cases h5 : 500 < m
      · have h5i : (500 : Int) < (m : Int) := by omega
        go_wp2_with fail
        go_ret
        exact ⟨rfl, HB.out⟩
      · have h5i : ¬ (500 : Int) < (m : Int) := by omega
        go_wp2_with fail
        go_roundw
        case rel => exact ⟨k + 1, by omega, by go_num, Lib.hid (fun z hz => by
          rw [List.take_add_one, HY.out] at hz
          rcases List.mem_append.1 hz with hz | hz
          · exact HA.out z hz
          · simp at hz
            subst hz
            have h := HM.out
            have e : (str8 z).size = z.length := rfl
            omega), HB⟩
        case measure => simp [intOf]; omega
    · obtain rfl : k = n1 := by omega
      have HK := Lib.hid (show ∀ x ∈ l, x.length ≤ 500 from fun z hz => HA.out z (by rw [← HLn.out, List.take_length]; exact hz))
      have hki : ¬ (k : Int) < (k : Int) := by omega
      rw [← HSt.out]
      clear HA hsz
      go_wp2_with fail
      refine (pname_any x wr).mono ?_
      rintro e x1 ⟨B1, m1, c1, rfl, hs, _, hb⟩
      have HB1 := Lib.hid (HB.out.trans (hb.mono HB.out.size))
      obtain ⟨p1, hp⟩ : ∃ p, layS putN 2 [x] = p := ⟨_, rfl⟩
      have HP1 := Lib.hid hp
      rw [hp] at hs ⊢
      clear hp
      obtain ⟨b1, hbb⟩ : ∃ b, p1.isSome = b := ⟨_, rfl⟩
      rw [hbb]
      have HI1 := Lib.hid hbb
      clear hbb
      have HS1_1 := Lib.hid hs
      clear hs hb
      go_wp2_with fail
      refine (rpname_any x x1 (by have := HX.out; omega)).mono ?_
      rintro e x2 ⟨B2, m2, c2, rfl, hs, _, hb⟩
      have HB2 := Lib.hid (HB1.out.trans (hb.mono HB1.out.size))
      have HS1_2 := Lib.hid (HS1_1.out.below hb)
      clear HS1_1
      rw [HP1.out] at hs ⊢
      rw [HI1.out]
      have HS2_2 := Lib.hid hs
      clear hs hb HB1
      go_wp2_with fail
      refine (pprotos_any A1 k k1 l x2 (HS.out.below HB2.out) HLn.out (by omega) (fun y hy => by have := HK.out y hy; omega)).mono ?_
      rintro e x3 ⟨B3, m3, c3, rfl, hs, _, hb⟩
      have HB3 := Lib.hid (HB2.out.trans (hb.mono HB2.out.size))
      have HS1_3 := Lib.hid (HS1_2.out.below hb)
      have HS2_3 := Lib.hid (HS2_2.out.below hb)
      clear HS1_2 HS2_2
      obtain ⟨p3, hp⟩ : ∃ p, layS putP 2 l = p := ⟨_, rfl⟩
      have HP3 := Lib.hid hp
      rw [hp] at hs ⊢
      clear hp
      obtain ⟨b3, hbb⟩ : ∃ b, p3.isSome = b := ⟨_, rfl⟩
      rw [hbb]
      have HI3 := Lib.hid hbb
      clear hbb
      have HS3_3 := Lib.hid hs
      clear hs hb HB2
      go_wp2_with fail
      refine (rpprotos_any A1 k k1 l x3 (HS.out.below HB3.out) HLn.out (by omega) (fun y hy => by have := HK.out y hy; omega)).mono ?_
      rintro e x4 ⟨B4, m4, c4, rfl, hs, _, hb⟩
      have HB4 := Lib.hid (HB3.out.trans (hb.mono HB3.out.size))
      have HS1_4 := Lib.hid (HS1_3.out.below hb)
      have HS2_4 := Lib.hid (HS2_3.out.below hb)
      have HS3_4 := Lib.hid (HS3_3.out.below hb)
      clear HS1_3 HS2_3 HS3_3
      rw [HP3.out] at hs ⊢
      rw [HI3.out]
      have HS4_4 := Lib.hid hs
      clear hs hb HB3
      go_wp2_with fail
      refine (pvers_any A2 n2 k2 v x4 (HV.out.below HB4.out) HVn.out (by omega)).mono ?_
      rintro e x5 ⟨B5, m5, c5, rfl, hs, _, hb⟩
      have HB5 := Lib.hid (HB4.out.trans (hb.mono HB4.out.size))
      have HS1_5 := Lib.hid (HS1_4.out.below hb)
      have HS2_5 := Lib.hid (HS2_4.out.below hb)
      have HS3_5 := Lib.hid (HS3_4.out.below hb)
      have HS4_5 := Lib.hid (HS4_4.out.below hb)
      clear HS1_4 HS2_4 HS3_4 HS4_4
      obtain ⟨p5, hp⟩ : ∃ p, layS putV 1 v = p := ⟨_, rfl⟩
      have HP5 := Lib.hid hp
      rw [hp] at hs ⊢
      clear hp
      obtain ⟨b5, hbb⟩ : ∃ b, p5.isSome = b := ⟨_, rfl⟩
      rw [hbb]
      have HI5 := Lib.hid hbb
      clear hbb
      have HS5_5 := Lib.hid hs
      clear hs hb HB4
      go_wp2_with fail
      refine (rpvers_any A2 n2 k2 v x5 (HV.out.below HB5.out) HVn.out (by omega)).mono ?_
      rintro e x6 ⟨B6, m6, c6, rfl, hs, _, hb⟩
      have HB6 := Lib.hid (HB5.out.trans (hb.mono HB5.out.size))
      have HS1_6 := Lib.hid (HS1_5.out.below hb)
      have HS2_6 := Lib.hid (HS2_5.out.below hb)
      have HS3_6 := Lib.hid (HS3_5.out.below hb)
      have HS4_6 := Lib.hid (HS4_5.out.below hb)
      have HS5_6 := Lib.hid (HS5_5.out.below hb)
      clear HS1_5 HS2_5 HS3_5 HS4_5 HS5_5
      rw [HP5.out] at hs ⊢
      rw [HI5.out]
      have HS6_6 := Lib.hid hs
      clear hs hb HB5
      have cv1 := con8 (c := c1) HS1_6.out
      have cv2 := con8 (c := c2) HS2_6.out
      have cv3 := con8 (c := c3) HS3_6.out
      have cv4 := con8 (c := c4) HS4_6.out
      have cv5 := con8 (c := c5) HS5_6.out
      have cv6 := con8 (c := c6) HS6_6.out
      clear HS1_6 HS2_6 HS3_6 HS4_6 HS5_6 HS6_6
      generalize p1.getD [] = d1 at *
      generalize p3.getD [] = d3 at *
      generalize p5.getD [] = d5 at *
      go_wp2_with fail
      go_ret
      exact ⟨rfl, HB6.out⟩

set_option maxRecDepth 100000 in
set_option linter.unusedVariables false in
theorem lifted (os : Os) (started : os.Started) (H : Type) (enc : TypeId × Value → H) :
    ReturnsInHanded {} Try.checked os 4 .any (Rows.extsPutsSpec.pre6 enc Try.prog Try.f4 Rows.extsPutsRow.domain false) (Rows.extsPutsSpec.post enc Try.prog Try.f4 false true false false) := by
  refine returnsInHanded_of_change (C := Try.checked) own started (by kernel_rfl) Try.func4
    (ChangeSpec.witness6 (enc := enc) (C := Try.checked) false ⟨#[], #[.string .empty, .slice none 0 0, .slice none 0 0], []⟩ 8 (by kernel_rfl) (by kernel_rfl) (by kernel_rfl) (by kernel_rfl)) ?_
  intro W base args ds gs before hval0 hW hcnd _
  have hval : ∀ (j : Nat) t v, Try.f4.params[j]? = some t → args[j]? = some v → Value.okWide Try.prog W .any base t v := hval0
  have hW' := hW
  obtain ⟨p, q, hA0, hV, rfl, hfz, hnd⟩ := hW
  have hA : DataW.TrodAll enc Try.prog W 0 (fun _ => true) true Try.f4.params.toList args.toList ds p := hA0
  rw [Try.params4] at hA hval
  obtain ⟨v0, vs0, d0, ds0, p0, q0, hargs, rfl, rfl, h0, r0⟩ := trodAll_cons hA
  obtain ⟨v1, vs1, d1, ds1, p1, q1, rfl, rfl, rfl, h1, r1⟩ := trodAll_cons r0
  obtain ⟨v2, vs2, d2, ds2, p2, q2, rfl, rfl, rfl, h2, r2⟩ := trodAll_cons r1
  obtain ⟨rfl, rfl, rfl⟩ := trodAll_nil r2
  obtain rfl : args = #[v0, v1, v2] := by cases args; simp_all
  obtain ⟨rfl, rfl⟩ := trodVars_none hV
  have k0 := h0
  have lt0 : ∀ x ∈ p0, x.block < W.heap.size := by obtain ⟨m, hm⟩ := k0; exact DataW.trod_lt m _ _ _ hm
  obtain ⟨s0, rfl, rfl, rfl, hs0⟩ := open_string Try.underlying9 (hval 0 9 v0 rfl rfl) h0
  have k1 := h1
  have lt1 : ∀ x ∈ p1, x.block < W.heap.size := by obtain ⟨m, hm⟩ := k1; exact DataW.trod_lt m _ _ _ hm
  obtain ⟨A1, n1, cap1, xs1, rfl, le1, mx1, src1⟩ := open_strE (hval 1 27 v1 rfl rfl) h1
  have k2 := h2
  have lt2 : ∀ x ∈ p2, x.block < W.heap.size := by obtain ⟨m, hm⟩ := k2; exact DataW.trod_lt m _ _ _ hm
  obtain ⟨A2, n2, cap2, xs2, rfl, le2, mx2, src2⟩ := open_intE (hval 2 30 v2 rfl rfl) h2
  clear hA0 hval0
  refine (walk W s0 hs0 A1 n1 cap1 xs1 le1 mx1 src1 A2 n2 cap2 xs2 le2 mx2 src2).mono fun e W' ⟨he, bel⟩ => ?_
  subst he
  exact ⟨_, rfl, _, _, _, [], _, [], hW', trodAll_mk1 (shut_bool Try.underlying4 _), (trodAll_cons_mk (Below.trod laidOut (by kernel_rfl) (of_decide_eq_true (by kernel_rfl)) k0 bel lt0) (trodAll_cons_mk (Below.trod laidOut (by kernel_rfl) (of_decide_eq_true (by kernel_rfl)) k1 bel lt1) (trodAll_cons_mk (Below.trod laidOut (by kernel_rfl) (of_decide_eq_true (by kernel_rfl)) k2 bel lt2) trodAll_mk0))), rfl, bel.frame _, fun h => by cases h⟩

theorem over : Rows.extsPutsRow.holds Try.pinned (OpenSpec.ofChange Rows.extsPutsSpec) :=
  OpenClaim.holds_of_wide 4 Try.f4 rfl rfl rfl rfl rfl rfl rfl ⟨rfl, rfl, rfl, rfl, rfl⟩ rfl rfl rfl rfl rfl (by kernel_rfl) Try.func4 (by kernel_rfl)
    (of_decide_eq_true (by kernel_rfl)) (by unfold Func.isWrapper; first | (rw [if_pos (by decide +kernel)]; kernel_rfl) | (rw [if_neg (by decide +kernel)]; exact ⟨rfl, rfl⟩))
    (fun os started H enc _ => lifted os started H enc)

theorem proved : Rows.ExtsPutsSaid := over
#print axioms proved
end Go.Proofs.Ytajmdchidmamcaa.extsPuts
