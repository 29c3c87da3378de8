/-
  NameAgain: what is normal is so, done again; letters may be great; a dot may stand behind, of what is no address; else the small case comes out right. Conditions: none beyond the statement's own.
-/
import Derived.Test.YtdofipjjodijcaaDoorNmSmall
import Derived.Test.YtdofipjjodijcaaDoorLiftLaid5
import Derived.Test.YtdofipjjodijcaaDoorCards
import Derived.Test.YtdofipjjodijcaaDoorTie
set_option maxRecDepth 100000
namespace Go.Proofs.YtdofipjjodijcaaDoor.nameAgain
open Go.ChangeMaps (open_string shut_string)
open Go.ChangeShapes Go.WideShapes Go.ChangeAt Go.RowKit Go.Proofs.YtdofipjjodijcaaDoor.Wd Go.Proofs.YtdofipjjodijcaaDoor.Asc Go.Proofs.YtdofipjjodijcaaDoor.Ad Go.Proofs.YtdofipjjodijcaaDoor.Nm Go.Proofs.YtdofipjjodijcaaDoor.Lift

set_option linter.unusedSimpArgs false in
set_option maxHeartbeats 16000000 in
theorem walk (W : World) (S : ByteArray) (hS0 : S.size ≤ maxLen) (hE : Ad.Env W.heap.size W) :
    Calls Tryd.prog 3 #[.string S] W fun e w' => e = .returned (.bool true) ∧ Below W.heap.size W w' := by
  have sS : S.size ≤ 9223372036854775807 := hS0
  have HE := Lib.hid hE
  have HS := Lib.hid (small_any W hE)
  clear hE hS0
  go_enter Tryd.func3, Tryd.ntmps3
  go_wp2_with fail
  refine HS.out.mono ?_
  rintro e w1 ⟨rfl, hb⟩
  have HL1 := Lib.hid hb
  clear hb HS
  by_cases h1 : 600 < S.size
  · have i1 : (600 : Int) < (S.size : Int) := by omega
    go_wp2_with fail
    go_ret
    exact ⟨rfl, HL1.out⟩
  have i1 : ¬ (600 : Int) < (S.size : Int) := by omega
  have hs : S.size ≤ 600 := by omega
  obtain ⟨q, hq⟩ : ∃ q, normalS (bs S) = q := ⟨_, rfl⟩
  obtain ⟨n, e⟩ := q
  obtain ⟨N, hN⟩ : ∃ N, str n = N := ⟨_, rfl⟩
  have hNb : bs N = n := by rw [← hN]; rfl
  have HN := Lib.hid (fun w hE => norm_at (B := W.heap.size) S (by omega) n e N hq hN w hE)
  by_cases he : e = 0
  case neg =>
    have hn : n = [] := by have h := normal_no (l := bs S) (by rw [hq]; exact he); rw [hq] at h; exact h
    have f1 : (e != 0) = true := by rw [bne_iff_ne]; exact he
    have f2 : decide (e = 0) = false := decide_eq_false he
    have f3 : (e == 0) = false := by rw [beq_eq_false_iff_ne]; exact he
    obtain ⟨f4, f5⟩ := is_empty (T := N) (by rw [hNb]; exact hn)
    clear hq hN hNb hn he h1 hs
    go_wp2_with fail
    refine (HN.out w1 (HE.out.below HL1.out)).mono ?_
    rintro e' w2 ⟨rfl, hb⟩
    have HL2 := Lib.hid (HL1.out.trans (hb.mono HL1.out.size))
    clear hb HN HL1
    go_wp2_with fail
    go_ret
    exact ⟨rfl, HL2.out⟩
  subst he
  have hnl := normal_len hq
  have hNz : N.size ≤ 253 := by rw [← bs_length, hNb]; exact hnl.2
  obtain ⟨f4, f5⟩ := no_empty (T := N) (by rw [hNb]; exact hnl.1)
  have f6 : decide ((N.size : Int) ≤ 253) = true := decide_eq_true (by omega)
  have fN : (N.toList == N.toList) = true := beq_self_eq_true _
  have HN2 := Lib.hid (fun w hE => norm_at (B := W.heap.size) N (by omega) n 0 N (by rw [hNb]; exact normal_again hq) hN w hE)
  have HLo := Lib.hid (fun w => lower_any S w)
  have hlz := low_size S
  have hlb := bs_low S
  obtain ⟨M, hM⟩ : ∃ M, lowS S = M := ⟨_, rfl⟩
  rw [hM] at HLo hlz hlb
  have HN3 := Lib.hid (fun w hE => norm_at (B := W.heap.size) M (by omega) n 0 N (by rw [hlb, normal_low]; exact hq) hN w hE)
  obtain ⟨V, hV, hVa, hP⟩ := parse_at (B := W.heap.size) N (by omega) _ rfl
  clear hVa
  have hdot := normal_dot hq
  rw [hNb] at hP
  obtain ⟨D, hD⟩ : ∃ D, N ++ ⟨#[46]⟩ = D := ⟨_, rfl⟩
  have hDb : bs D = n ++ [46] := by rw [← hD, bs_add, hNb]; rfl
  have hDz : D.size ≤ 254 := by rw [← bs_length, hDb, List.length_append, ← hNb, bs_length]; simp; omega
  obtain ⟨r, hr⟩ : ∃ r, normalS (n ++ [46]) = r := ⟨_, rfl⟩
  rw [hr] at hdot
  obtain ⟨y, h⟩ := r
  obtain ⟨Y, hY⟩ : ∃ Y, str y = Y := ⟨_, rfl⟩
  have HN4 := Lib.hid (fun w hE => norm_at (B := W.heap.size) D (by omega) y h Y (by rw [hDb]; exact hr) hY w hE)
  obtain ⟨b, hb0⟩ : ∃ b, (Ad.parseS n).isSome = b := ⟨_, rfl⟩
  rw [hb0] at hP hdot
  have HP := Lib.hid hP
  have HD := Lib.hid hD
  have HDot := Lib.hid hdot
  have HNe := Lib.hid hN
  have HYe := Lib.hid hY
  clear hq hN hNb hnl hlz hlb hM hD hDb hr hY hb0 hP hdot h1
  go_wp2_with fail
  refine (HN.out w1 (HE.out.below HL1.out)).mono ?_
  rintro e' w2 ⟨rfl, hb⟩
  have HL2 := Lib.hid (HL1.out.trans (hb.mono HL1.out.size))
  clear hb HN HL1
  go_wp2_with fail
  refine (HN2.out w2 (HE.out.below HL2.out)).mono ?_
  rintro e' w3 ⟨rfl, hb⟩
  have HL3 := Lib.hid (HL2.out.trans (hb.mono HL2.out.size))
  clear hb HN2 HL2
  go_wp2_with fail
  refine (HLo.out w3).mono ?_
  rintro e' w4 ⟨rfl, hb⟩
  have HL4 := Lib.hid (HL3.out.trans (hb.mono HL3.out.size))
  clear hb HLo HL3
  go_wp2_with fail
  refine (HN3.out w4 (HE.out.below HL4.out)).mono ?_
  rintro e' w5 ⟨rfl, hb⟩
  have HL5 := Lib.hid (HL4.out.trans (hb.mono HL4.out.size))
  clear hb HN3 HL4
  go_wp2_with fail
  refine (HP.out w5 (HE.out.below HL5.out)).mono ?_
  rintro e' w6 ⟨rfl, hb⟩
  have Lp := Lib.hid (HL5.out.trans (hb.mono HL5.out.size))
  clear hb HP HL5
  go_upto_region 10 with (refine St.go_st 28 (Blk.new _ _ _) Ad.info16 rfl (by rw [Ad.cA_size, hV]) (Ad.cA_one _) rfl rfl rfl rfl ?_)
  obtain ⟨_, hbl⟩ := adr_new w6 V
  have HL7 := Lib.hid (Lp.out.trans (hbl.mono Lp.out.size))
  clear hbl Lp
  generalize (w6.alloc (.cells #[Value.int .u8 0, Value.int .u8 0, Value.int .u8 0, Value.int .u8 0, Value.int .u8 0, Value.int .u8 0, Value.int .u8 0, Value.int .u8 0, Value.int .u8 0, Value.int .u8 0, Value.int .u8 0, Value.int .u8 0, Value.int .u8 0, Value.int .u8 0, Value.int .u8 0, Value.int .u8 0] 28)).setRow w6.heap.size (Ad.cA V) = w7 at *
  go_wp2_with fail
  rw [HD.out]
  refine (HN4.out w7 (HE.out.below HL7.out)).mono ?_
  rintro e' w8 ⟨rfl, hb⟩
  have HL8 := Lib.hid (HL7.out.trans (hb.mono HL7.out.size))
  clear hb HN4 HL7
  cases b with
  | true =>
    have hne : h ≠ 0 := by have h0 := HDot.out; simpa using h0
    have g1 : (h != 0) = true := by rw [bne_iff_ne]; exact hne
    have g2 : decide (h = 0) = false := decide_eq_false hne
    have g3 : (h == 0) = false := by rw [beq_eq_false_iff_ne]; exact hne
    clear hne
    go_wp2_with fail
    go_ret
    exact ⟨rfl, HL8.out⟩
  | false =>
    have h0 : (y, h) = (n, (0 : Int)) := by have h0 := HDot.out; simpa using h0
    injection h0 with h3 h4
    subst h4
    have hYN : Y = N := by rw [← HYe.out, ← HNe.out, h3]
    subst hYN
    go_wp2_with fail
    go_ret
    exact ⟨rfl, HL8.out⟩

set_option maxRecDepth 100000 in
set_option linter.unusedVariables false in
theorem lifted (os : Os) (started : os.Started) (H : Type) (enc : TypeId × Value → H) :
    ReturnsInHanded {} Tryd.checked os 3 .any (fun w args => (Rows.nameAgainSpec.pre enc Tryd.prog Tryd.f3 [] false w args ∧ laidMetH Tryd.prog laid5 w) ∧ sizedMet enc Tryd.prog Tryd.f3 (OpenSpec.ofChange Rows.nameAgainSpec) false w args)
      (Rows.nameAgainSpec.post enc Tryd.prog Tryd.f3 false true false false) := by
  refine returns_laid (C := Tryd.checked) (X := fun w _ => laidMetH Tryd.prog laid5 w) (fun _ _ _ hh h => h.of_heap hh) own started (by kernel_rfl) Tryd.func3
    (ChangeSpec.witness_shaped (enc := enc) (C := Tryd.checked) (os := os) (X := fun w _ => laidMetH Tryd.prog laid5 w) false (World.laidAll Tryd.prog os laid5) #[.string .empty] 8 (World.laidAll_os _ _ _)
      (World.shaped_of_ZipB (by kernel_rfl) (by kernel_rfl)) (by kernel_rfl) (by kernel_rfl) (by kernel_rfl) (door_met5 os _)) ?_
  intro W base args ds gs before hval0 hW hL hshp
  have hE := env_of5 hL hshp
  have hval : ∀ (j : Nat) t v, Tryd.f3.params[j]? = some t → args[j]? = some v → Value.okWide Tryd.prog W .any base t v := hval0
  have hW' := hW
  obtain ⟨p, q, hA0, hV, rfl, hfz, hnd⟩ := hW
  have hA : DataW.TrodAll enc Tryd.prog W 0 (fun _ => true) true Tryd.f3.params.toList args.toList ds p := hA0
  rw [Tryd.params3] at hA hval
  obtain ⟨v0, vs0, d0, ds0, p0, q0, hargs, rfl, rfl, h0, r0⟩ := trodAll_cons hA
  obtain ⟨rfl, rfl, rfl⟩ := trodAll_nil r0
  obtain rfl : args = #[v0] := by cases args; simp_all
  obtain ⟨rfl, rfl⟩ := trodVars_none hV
  have k0 := h0
  have lt0 : ∀ x ∈ p0, x.block < W.heap.size := by obtain ⟨m, hm⟩ := k0; exact DataW.trod_lt m _ _ _ hm
  obtain ⟨s0, rfl, rfl, rfl, hs0⟩ := open_string Tryd.underlying9 (hval 0 9 v0 rfl rfl) h0
  clear hA0 hval0
  refine (walk W s0 hs0 hE).mono fun e W' ⟨he, bel⟩ => ?_
  subst he
  exact ⟨_, rfl, _, _, _, [], _, [], hW', trodAll_mk1 (shut_bool Tryd.underlying4 _), (trodAll_cons_mk (Below.trod Lift.laidOut (by kernel_rfl) (of_decide_eq_true (by kernel_rfl)) k0 bel lt0) trodAll_mk0), rfl, bel.frame _, fun h => by cases h⟩

theorem over : Rows.nameAgainRow.holds Tryd.pinned (OpenSpec.ofChange Rows.nameAgainSpec) :=
  OpenClaim.holds_of_wide 3 Tryd.f3 rfl rfl rfl rfl rfl rfl rfl ⟨rfl, rfl, rfl, rfl, rfl⟩ rfl rfl rfl rfl rfl (by kernel_rfl) Tryd.func3 (by kernel_rfl)
    (of_decide_eq_true (by kernel_rfl)) (by unfold Func.isWrapper; first | (rw [if_pos (by decide +kernel)]; kernel_rfl) | (rw [if_neg (by decide +kernel)]; exact ⟨rfl, rfl⟩))
    (fun os started H enc _ => lifted os started H enc)

theorem proved : Rows.NameAgainCardSaid :=
  Claim7.holds_tied_plain_at .later [] [.data, .data, .data, .data, .pinned] true (true, "449e5db609fe44d1ca4a7c747dab489d97c37c91738f9d421f8cf2ac4b3a7664") false
    over (fun _ h => by cases h) (by kernel_rfl) (fun _ h => by cases h) nameAgain_row_tie rfl ⟨rfl, rfl⟩ (by kernel_rfl) rfl
    (fun f fn hf hfn => by
      obtain rfl : f = 3 := Option.some.inj ((show Tryd.prog.funcNamed "hagioscope/hagioscopelaw14.NameAgain" = some 3 by kernel_rfl).symm.trans hf) |>.symm
      obtain rfl : fn = Tryd.f3 := (Option.some.inj (Tryd.func3.symm.trans hfn)).symm
      exact ⟨by kernel_rfl, fun j t ht => by
        rw [Tryd.params3] at ht
        have hm : t ∈ [9] := by simpa using Array.mem_of_getElem? ht
        have hall : ([9].all fun u => !Tryd.prog.wantsStandIn u) = true := by kernel_rfl
        exact (show Tryd.prog.wantsStandIn t = false by simpa using List.all_eq_true.1 hall t hm)⟩)
    (by kernel_rfl)
#print axioms proved
end Go.Proofs.YtdofipjjodijcaaDoor.nameAgain
