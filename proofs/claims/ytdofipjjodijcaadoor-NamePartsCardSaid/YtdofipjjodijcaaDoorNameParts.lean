/-
  NameParts: two names are one, with a dot between, if it is not too long, and the second one is no address; else the small case comes out right. Conditions: none beyond the statement's own.
-/
import Derived.Test.YtdofipjjodijcaaDoorNmSmall
import Derived.Test.YtdofipjjodijcaaDoorLiftLaid5
import Derived.Test.YtdofipjjodijcaaDoorCards
import Derived.Test.YtdofipjjodijcaaDoorTie
set_option maxRecDepth 100000
namespace Go.Proofs.YtdofipjjodijcaaDoor.nameParts
open Go.ChangeMaps (open_string shut_string)
open Go.ChangeShapes Go.WideShapes Go.ChangeAt Go.RowKit Go.Proofs.YtdofipjjodijcaaDoor.Wd Go.Proofs.YtdofipjjodijcaaDoor.Asc Go.Proofs.YtdofipjjodijcaaDoor.Ad Go.Proofs.YtdofipjjodijcaaDoor.Nm Go.Proofs.YtdofipjjodijcaaDoor.Lift

set_option linter.unusedSimpArgs false in
set_option maxHeartbeats 16000000 in
theorem walk (W : World) (S : ByteArray) (hS0 : S.size ≤ maxLen) (R : ByteArray) (hR0 : R.size ≤ maxLen) (hE : Ad.Env W.heap.size W) :
    Calls Tryd.prog 5 #[.string S, .string R] W fun e w' => e = .returned (.bool true) ∧ Below W.heap.size W w' := by
  have sS : S.size ≤ 9223372036854775807 := hS0
  have sR : R.size ≤ 9223372036854775807 := hR0
  have HE := Lib.hid hE
  have HS := Lib.hid (small_any W hE)
  clear hE hS0 hR0
  go_enter Tryd.func5, Tryd.ntmps5
  go_wp2_with fail
  refine HS.out.mono ?_
  rintro e w1 ⟨rfl, hb⟩
  have HL1 := Lib.hid hb
  clear hb HS
  by_cases h1 : 300 < S.size
  · have i1 : decide ((300 : Int) < (S.size : Int)) = true := decide_eq_true (by omega)
    go_wp2_with fail
    go_ret
    exact ⟨rfl, HL1.out⟩
  have i1 : decide ((300 : Int) < (S.size : Int)) = false := decide_eq_false (by omega)
  by_cases h2 : 300 < R.size
  · have i2 : decide ((300 : Int) < (R.size : Int)) = true := decide_eq_true (by omega)
    go_wp2_with fail
    go_ret
    exact ⟨rfl, HL1.out⟩
  have i2 : decide ((300 : Int) < (R.size : Int)) = false := decide_eq_false (by omega)
  have hle : ∀ (l x : List UInt8) (e : Int), normalS l = (x, e) → x.length ≤ 253 := fun l x e h => by
    by_cases he : e = 0
    · subst he; exact (normal_len h).2
    · have h3 := normal_no (l := l) (by rw [h]; exact he)
      rw [h] at h3
      rw [show x = [] from h3]
      exact Nat.zero_le _
  obtain ⟨q, hq⟩ : ∃ q, normalS (bs S) = q := ⟨_, rfl⟩
  obtain ⟨x, e⟩ := q
  obtain ⟨X, hX⟩ : ∃ X, str x = X := ⟨_, rfl⟩
  have hXb : bs X = x := by rw [← hX]; rfl
  have hXz : X.size ≤ 253 := by rw [← bs_length, hXb]; exact hle _ _ _ hq
  have HN1 := Lib.hid (fun w hE => norm_at (B := W.heap.size) S (by omega) x e X hq hX w hE)
  obtain ⟨r, hr⟩ : ∃ r, normalS (bs R) = r := ⟨_, rfl⟩
  obtain ⟨y, f⟩ := r
  obtain ⟨Y, hY⟩ : ∃ Y, str y = Y := ⟨_, rfl⟩
  have hYb : bs Y = y := by rw [← hY]; rfl
  have hYz : Y.size ≤ 253 := by rw [← bs_length, hYb]; exact hle _ _ _ hr
  have HN2 := Lib.hid (fun w hE => norm_at (B := W.heap.size) R (by omega) y f Y hr hY w hE)
  obtain ⟨V, hV, hVa, hP⟩ := parse_at (B := W.heap.size) X (by omega) _ rfl
  clear hVa
  obtain ⟨U, hU, hUa, hQ⟩ := parse_at (B := W.heap.size) Y (by omega) _ rfl
  clear hUa
  rw [hXb] at hP
  rw [hYb] at hQ
  obtain ⟨b, hb0⟩ : ∃ b, (Ad.parseS x).isSome = b := ⟨_, rfl⟩
  obtain ⟨c, hc0⟩ : ∃ c, (Ad.parseS y).isSome = c := ⟨_, rfl⟩
  rw [hb0] at hP
  rw [hc0] at hQ
  have HP := Lib.hid hP
  have HQ := Lib.hid hQ
  have Hq := Lib.hid hq
  have Hr := Lib.hid hr
  have HX := Lib.hid hXb
  have HY := Lib.hid hYb
  have HB := Lib.hid hb0
  have HC := Lib.hid hc0
  clear hq hr hP hQ hX hY hXb hYb hb0 hc0 hle h1 h2
  go_wp2_with fail
  refine (HN1.out w1 (HE.out.below HL1.out)).mono ?_
  rintro e' w2 ⟨rfl, hb⟩
  have HL2 := Lib.hid (HL1.out.trans (hb.mono HL1.out.size))
  clear hb HN1 HL1
  go_wp2_with fail
  refine (HN2.out w2 (HE.out.below HL2.out)).mono ?_
  rintro e' w3 ⟨rfl, hb⟩
  have HL3 := Lib.hid (HL2.out.trans (hb.mono HL2.out.size))
  clear hb HN2 HL2
  go_wp2_with fail
  refine (HP.out w3 (HE.out.below HL3.out)).mono ?_
  rintro e' w4 ⟨rfl, hb⟩
  have Lp := Lib.hid (HL3.out.trans (hb.mono HL3.out.size))
  clear hb HP HL3
  go_upto_region 7 with (refine St.go_st 28 (Blk.new _ _ _) Ad.info16 rfl (by rw [Ad.cA_size, hV]) (Ad.cA_one _) rfl rfl rfl rfl ?_)
  obtain ⟨_, hbl⟩ := adr_new w4 V
  have HL5 := Lib.hid (Lp.out.trans (hbl.mono Lp.out.size))
  clear hbl Lp
  generalize (w4.alloc (.cells #[Value.int .u8 0, Value.int .u8 0, Value.int .u8 0, Value.int .u8 0, Value.int .u8 0, Value.int .u8 0, Value.int .u8 0, Value.int .u8 0, Value.int .u8 0, Value.int .u8 0, Value.int .u8 0, Value.int .u8 0, Value.int .u8 0, Value.int .u8 0, Value.int .u8 0, Value.int .u8 0] 28)).setRow w4.heap.size (Ad.cA V) = w5 at *
  go_wp2_with fail
  refine (HQ.out w5 (HE.out.below HL5.out)).mono ?_
  rintro e' w6 ⟨rfl, hb⟩
  have Lp := Lib.hid (HL5.out.trans (hb.mono HL5.out.size))
  clear hb HQ HL5
  go_upto_region 8 with (refine St.go_st 28 (Blk.new _ _ _) Ad.info16 rfl (by rw [Ad.cA_size, hU]) (Ad.cA_one _) rfl rfl rfl rfl ?_)
  obtain ⟨_, hbl⟩ := adr_new w6 U
  have HL7 := Lib.hid (Lp.out.trans (hbl.mono Lp.out.size))
  clear hbl Lp
  generalize (w6.alloc (.cells #[Value.int .u8 0, Value.int .u8 0, Value.int .u8 0, Value.int .u8 0, Value.int .u8 0, Value.int .u8 0, Value.int .u8 0, Value.int .u8 0, Value.int .u8 0, Value.int .u8 0, Value.int .u8 0, Value.int .u8 0, Value.int .u8 0, Value.int .u8 0, Value.int .u8 0, Value.int .u8 0] 28)).setRow w6.heap.size (Ad.cA U) = w7 at *
  by_cases he : e = 0
  case neg =>
    have fe1 : (e != 0) = true := by rw [bne_iff_ne]; exact he
    have fe2 : decide (e = 0) = false := decide_eq_false he
    have fe3 : (e == 0) = false := by rw [beq_eq_false_iff_ne]; exact he
    clear he
    go_wp2_with fail
    go_ret
    exact ⟨rfl, HL7.out⟩
  subst he
  by_cases hf : f = 0
  case neg =>
    have ff1 : (f != 0) = true := by rw [bne_iff_ne]; exact hf
    have ff2 : decide (f = 0) = false := decide_eq_false hf
    have ff3 : (f == 0) = false := by rw [beq_eq_false_iff_ne]; exact hf
    clear hf
    go_wp2_with fail
    go_ret
    exact ⟨rfl, HL7.out⟩
  subst hf
  cases b with
  | true =>
    go_wp2_with fail
    go_ret
    exact ⟨rfl, HL7.out⟩
  | false =>
    cases c with
    | true =>
      go_wp2_with fail
      go_ret
      exact ⟨rfl, HL7.out⟩
    | false =>
      have hn1 : Ad.parseS x = none := by have h := HB.out; simpa using h
      have hn2 : Ad.parseS y = none := by have h := HC.out; simpa using h
      have hap := normal_app Hq.out Hr.out hn1 hn2
      have hDb : bs (X ++ ⟨#[46]⟩ ++ Y) = x ++ 46 :: y := by rw [bs_add, bs_add, HX.out, HY.out, List.append_assoc]; rfl
      have hxl : x.length = X.size := by rw [← HX.out, bs_length]
      have hyl : y.length = Y.size := by rw [← HY.out, bs_length]
      have hDz : (X ++ ⟨#[46]⟩ ++ Y).size < 4294967281 := by rw [← bs_length, hDb, List.length_append, List.length_cons]; omega
      have hDs : str (x ++ 46 :: y) = X ++ ⟨#[46]⟩ ++ Y := by rw [← hDb, str_bs]
      rw [← hDb, hxl, hyl] at hap
      clear hn1 hn2 Hq Hr HB HC
      by_cases h5 : 252 < X.size + Y.size
      · rw [if_pos h5] at hap
        have HN3 := Lib.hid (fun w hE => norm_at (B := W.heap.size) (X ++ ⟨#[46]⟩ ++ Y) hDz [] 6 ⟨#[]⟩ hap rfl w hE)
        have i5 : decide ((252 : Int) < (X.size : Int) + (Y.size : Int)) = true := decide_eq_true (by omega)
        clear hap hDb hxl hyl hDz hDs h5 HX HY
        go_wp2_with fail
        refine (HN3.out w7 (HE.out.below HL7.out)).mono ?_
        rintro e' w8 ⟨rfl, hb⟩
        have HL8 := Lib.hid (HL7.out.trans (hb.mono HL7.out.size))
        clear hb HN3 HL7
        go_wp2_with fail
        go_ret
        exact ⟨rfl, HL8.out⟩
      · rw [if_neg h5, hDb] at hap
        rw [← hDb] at hap
        have HN3 := Lib.hid (fun w hE => norm_at (B := W.heap.size) (X ++ ⟨#[46]⟩ ++ Y) hDz (bs (X ++ ⟨#[46]⟩ ++ Y)) 0 (X ++ ⟨#[46]⟩ ++ Y) hap (str_bs _) w hE)
        have i5 : decide ((252 : Int) < (X.size : Int) + (Y.size : Int)) = false := decide_eq_false (by omega)
        have fD : ((X ++ ⟨#[46]⟩ ++ Y).toList == (X ++ ⟨#[46]⟩ ++ Y).toList) = true := beq_self_eq_true _
        clear hap hDb hxl hyl hDz hDs h5 HX HY
        go_wp2_with fail
        refine (HN3.out w7 (HE.out.below HL7.out)).mono ?_
        rintro e' w8 ⟨rfl, hb⟩
        have HL8 := Lib.hid (HL7.out.trans (hb.mono HL7.out.size))
        clear hb HN3 HL7
        go_wp2_with fail
        go_ret
        exact ⟨rfl, HL8.out⟩

set_option maxRecDepth 100000 in
set_option linter.unusedVariables false in
theorem lifted (os : Os) (started : os.Started) (H : Type) (enc : TypeId × Value → H) :
    ReturnsInHanded {} Tryd.checked os 5 .any (fun w args => (Rows.namePartsSpec.pre enc Tryd.prog Tryd.f5 [] false w args ∧ laidMetH Tryd.prog laid5 w) ∧ sizedMet enc Tryd.prog Tryd.f5 (OpenSpec.ofChange Rows.namePartsSpec) false w args)
      (Rows.namePartsSpec.post enc Tryd.prog Tryd.f5 false true false false) := by
  refine returns_laid (C := Tryd.checked) (X := fun w _ => laidMetH Tryd.prog laid5 w) (fun _ _ _ hh h => h.of_heap hh) own started (by kernel_rfl) Tryd.func5
    (ChangeSpec.witness_shaped (enc := enc) (C := Tryd.checked) (os := os) (X := fun w _ => laidMetH Tryd.prog laid5 w) false (World.laidAll Tryd.prog os laid5) #[.string .empty, .string .empty] 8 (World.laidAll_os _ _ _)
      (World.shaped_of_ZipB (by kernel_rfl) (by kernel_rfl)) (by kernel_rfl) (by kernel_rfl) (by kernel_rfl) (door_met5 os _)) ?_
  intro W base args ds gs before hval0 hW hL hshp
  have hE := env_of5 hL hshp
  have hval : ∀ (j : Nat) t v, Tryd.f5.params[j]? = some t → args[j]? = some v → Value.okWide Tryd.prog W .any base t v := hval0
  have hW' := hW
  obtain ⟨p, q, hA0, hV, rfl, hfz, hnd⟩ := hW
  have hA : DataW.TrodAll enc Tryd.prog W 0 (fun _ => true) true Tryd.f5.params.toList args.toList ds p := hA0
  rw [Tryd.params5] at hA hval
  obtain ⟨v0, vs0, d0, ds0, p0, q0, hargs, rfl, rfl, h0, r0⟩ := trodAll_cons hA
  obtain ⟨v1, vs1, d1, ds1, p1, q1, rfl, rfl, rfl, h1, r1⟩ := trodAll_cons r0
  obtain ⟨rfl, rfl, rfl⟩ := trodAll_nil r1
  obtain rfl : args = #[v0, v1] := by cases args; simp_all
  obtain ⟨rfl, rfl⟩ := trodVars_none hV
  have k0 := h0
  have lt0 : ∀ x ∈ p0, x.block < W.heap.size := by obtain ⟨m, hm⟩ := k0; exact DataW.trod_lt m _ _ _ hm
  obtain ⟨s0, rfl, rfl, rfl, hs0⟩ := open_string Tryd.underlying9 (hval 0 9 v0 rfl rfl) h0
  have k1 := h1
  have lt1 : ∀ x ∈ p1, x.block < W.heap.size := by obtain ⟨m, hm⟩ := k1; exact DataW.trod_lt m _ _ _ hm
  obtain ⟨s1, rfl, rfl, rfl, hs1⟩ := open_string Tryd.underlying9 (hval 1 9 v1 rfl rfl) h1
  clear hA0 hval0
  refine (walk W s0 hs0 s1 hs1 hE).mono fun e W' ⟨he, bel⟩ => ?_
  subst he
  exact ⟨_, rfl, _, _, _, [], _, [], hW', trodAll_mk1 (shut_bool Tryd.underlying4 _), (trodAll_cons_mk (Below.trod Lift.laidOut (by kernel_rfl) (of_decide_eq_true (by kernel_rfl)) k0 bel lt0) (trodAll_cons_mk (Below.trod Lift.laidOut (by kernel_rfl) (of_decide_eq_true (by kernel_rfl)) k1 bel lt1) trodAll_mk0)), rfl, bel.frame _, fun h => by cases h⟩

theorem over : Rows.namePartsRow.holds Tryd.pinned (OpenSpec.ofChange Rows.namePartsSpec) :=
  OpenClaim.holds_of_wide 5 Tryd.f5 rfl rfl rfl rfl rfl rfl rfl ⟨rfl, rfl, rfl, rfl, rfl⟩ rfl rfl rfl rfl rfl (by kernel_rfl) Tryd.func5 (by kernel_rfl)
    (of_decide_eq_true (by kernel_rfl)) (by unfold Func.isWrapper; first | (rw [if_pos (by decide +kernel)]; kernel_rfl) | (rw [if_neg (by decide +kernel)]; exact ⟨rfl, rfl⟩))
    (fun os started H enc _ => lifted os started H enc)

theorem proved : Rows.NamePartsCardSaid :=
  Claim7.holds_tied_plain_at .later [] [.data, .data, .data, .data, .pinned] true (true, "449e5db609fe44d1ca4a7c747dab489d97c37c91738f9d421f8cf2ac4b3a7664") false
    over (fun _ h => by cases h) (by kernel_rfl) (fun _ h => by cases h) nameParts_row_tie rfl ⟨rfl, rfl⟩ (by kernel_rfl) rfl
    (fun f fn hf hfn => by
      obtain rfl : f = 5 := Option.some.inj ((show Tryd.prog.funcNamed "hagioscope/hagioscopelaw14.NameParts" = some 5 by kernel_rfl).symm.trans hf) |>.symm
      obtain rfl : fn = Tryd.f5 := (Option.some.inj (Tryd.func5.symm.trans hfn)).symm
      exact ⟨by kernel_rfl, fun j t ht => by
        rw [Tryd.params5] at ht
        have hm : t ∈ [9, 9] := by simpa using Array.mem_of_getElem? ht
        have hall : ([9, 9].all fun u => !Tryd.prog.wantsStandIn u) = true := by kernel_rfl
        exact (show Tryd.prog.wantsStandIn t = false by simpa using List.all_eq_true.1 hall t hm)⟩)
    (by kernel_rfl)
#print axioms proved
end Go.Proofs.YtdofipjjodijcaaDoor.nameParts
