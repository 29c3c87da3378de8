/-
  AuthorityBack: what package authority prints is parsed as it was, and what is parsed can be printed, and is parsed the same; else the small case comes out right. Conditions: none beyond the statement's own.
-/
import Derived.Test.YtgpgkfbbpiialaaDoorAuSmall
import Derived.Test.YtgpgkfbbpiialaaDoorMLi
import Derived.Test.YtgpgkfbbpiialaaDoorCards
import Derived.Test.YtgpgkfbbpiialaaDoorTie
set_option maxRecDepth 100000
namespace Go.Proofs.YtgpgkfbbpiialaaDoor.authorityBack
open Go.ChangeMaps (open_string shut_string)
open Go.ChangeShapes Go.WideShapes Go.ChangeAt Go.RowKit Go.Proofs.YtgpgkfbbpiialaaDoor.Wd Go.Proofs.YtgpgkfbbpiialaaDoor.Asc Go.Proofs.YtgpgkfbbpiialaaDoor.Tx Go.Proofs.YtgpgkfbbpiialaaDoor.St Go.Proofs.YtgpgkfbbpiialaaDoor.Au Go.Proofs.YtgpgkfbbpiialaaDoor.Lift

theorem line_len {h : List UInt8} {p : Int} (h1 : h.length ≤ 2000) (h2 : p ≤ 65535) : (lineS h p).length ≤ 200000 := by
  have hb : (bodyS h).length ≤ 2002 := by
    unfold bodyS
    split
    · simp; omega
    · omega
  have ht : (tailS p).length ≤ 65537 := by
    unfold tailS
    split
    · exact Nat.zero_le _
    · have := txt_long p.toNat
      rw [List.length_cons]
      omega
  rw [lineS, List.length_append]
  omega

set_option linter.unusedSimpArgs false in
set_option maxHeartbeats 8000000 in
theorem walk (W : World) (H : ByteArray) (hH0 : H.size ≤ maxLen) (k : Int) (hk : -9223372036854775808 ≤ k ∧ k ≤ 9223372036854775807) (S : ByteArray) (hS0 : S.size ≤ maxLen) (hE : Ad.Env W.heap.size W) :
    Calls Tryd.prog 4 #[.string H, .int .i64 k, .string S] W fun e w' => e = .returned (.bool true) ∧ Below W.heap.size W w' := by
  have sS : S.size ≤ 9223372036854775807 := hS0
  have sH : H.size ≤ 9223372036854775807 := hH0
  have HE := Lib.hid hE
  have HS := Lib.hid (small_any W hE)
  clear hE hS0 hH0
  go_enter Tryd.func4, Tryd.ntmps4
  go_wp2_with fail
  refine HS.out.mono ?_
  rintro e w1 ⟨rfl, hb⟩
  have HL1 := Lib.hid hb
  clear hb HS
  by_cases h1 : 1000 < H.size
  · have i1 : (1000 : Int) < (H.size : Int) := by omega
    go_wp2_with fail
    go_ret
    exact ⟨rfl, HL1.out⟩
  have i1 : ¬ (1000 : Int) < (H.size : Int) := by omega
  by_cases h2 : 1000 < S.size
  · have i2 : (1000 : Int) < (S.size : Int) := by omega
    go_wp2_with fail
    go_ret
    exact ⟨rfl, HL1.out⟩
  have i2 : ¬ (1000 : Int) < (S.size : Int) := by omega
  have P1 := Lib.hid (fun w hE => print_any (B := W.heap.size) H k w hE (by omega) hk)
  have P2 := Lib.hid (fun w hE => parse_any (B := W.heap.size) S w hE (by omega))
  obtain ⟨q, hq⟩ : ∃ q, parseS (bs S) = q := ⟨_, rfl⟩
  have HLn := Lib.hid (parse_len (l := bs S) (h := q.1) (p := q.2.1) (e := q.2.2) hq)
  have HNo := Lib.hid (fun he : q.2.2 ≠ 0 => parse_none (l := bs S) (h := q.1) (p := q.2.1) (e := q.2.2) hq he)
  have HOk := Lib.hid (fun he : q.2.2 = 0 => parse_ok (l := bs S) (h := q.1) (p := q.2.1) (by rw [hq, ← he]))
  rw [hq] at P2
  obtain ⟨b, p, f⟩ := q
  unfold ResP resT at P2
  simp only at P2 HLn HNo HOk
  obtain ⟨X, hX⟩ : ∃ X, str b = X := ⟨_, rfl⟩
  rw [hX] at P2
  have hbl : b.length ≤ 1064 := by
    have := HLn.out
    rw [bs_length] at this
    omega
  have hXz : X.size ≤ 1064 := by rw [← hX, str_size]; exact hbl
  have hXb : bs X = b := by rw [← hX, bs_str]
  clear h1 h2 HLn hq
  go_wp2_with fail
  refine (P1.out w1 (HE.out.on HL1.out)).mono ?_
  rintro e w2 ⟨rfl, hb⟩
  have HL2 := Lib.hid (HL1.out.trans (hb.mono HL1.out.size))
  clear hb P1 HL1
  cases hp : printS (bs H) k with
  | none =>
    unfold Rl.optT
    clear hp
    go_wp2_with fail
    refine (P2.out _ (HE.out.on HL2.out)).mono ?_
    rintro e w5 ⟨rfl, hb⟩
    have HL5 := Lib.hid (HL2.out.trans (hb.mono HL2.out.size))
    clear hb P2 HL2
    by_cases c1 : f = 0
    · subst c1
      obtain ⟨hp1, hp2, hp3, hp4⟩ := HOk.out rfl
      have zp : (-9223372036854775808 : Int) ≤ p ∧ p ≤ 9223372036854775807 := by omega
      have P3 := Lib.hid (fun w hE => print_any (B := W.heap.size) X p w hE (by omega) zp)
      rw [hXb, print_yes hp3 hp1] at P3
      have hll := line_len (h := b) (p := p) (by omega) hp4
      obtain ⟨Y, hY⟩ : ∃ Y, str (lineS b p) = Y := ⟨_, rfl⟩
      have hYz : Y.size ≤ 200000 := by rw [← hY, str_size]; exact hll
      have hYb : bs Y = lineS b p := by rw [← hY, bs_str]
      have P4 := Lib.hid (fun w hE => parse_any (B := W.heap.size) Y w hE (by omega))
      rw [hYb, hp1] at P4
      unfold ResP resT at P4
      simp only at P4
      rw [show Rl.optT (some (lineS b p)) = .tuple #[.string Y, .bool true] by rw [← hY]; rfl] at P3
      rw [hX] at P4
      have n1 : (X.toList == []) = false := by rw [empty_is, hXb]; exact decide_eq_false hp2
      have e1 : (X.toList == X.toList) = true := by simp
      have e2 : (p == p) = true := by simp
      have e3 : (0 : Int) ≤ p := hp3
      have e4 : p < 65536 := by omega
      clear hp1 hp2 hp3 hp4 zp hY hYb hll HNo HOk hX hXb hk
      go_wp2_with fail
      refine (P3.out w5 (HE.out.on HL5.out)).mono ?_
      rintro e w6 ⟨rfl, hb⟩
      have HL6 := Lib.hid (HL5.out.trans (hb.mono HL5.out.size))
      clear hb P3 HL5
      go_wp2_with fail
      refine (P4.out w6 (HE.out.on HL6.out)).mono ?_
      rintro e w7 ⟨rfl, hb⟩
      have HL7 := Lib.hid (HL6.out.trans (hb.mono HL6.out.size))
      clear hb P4 HL6
      go_wp2_with fail
      go_ret
      exact ⟨rfl, HL7.out⟩
    · have n1 : (f != 0) = true := by simpa using c1
      obtain ⟨g1, g2⟩ := HNo.out c1
      subst g2
      have e1 : (X.toList == []) = true := by rw [empty_is, hXb]; exact decide_eq_true g1
      clear c1 g1 HNo HOk hX hXb hk
      go_wp2_with fail
      go_ret
      exact ⟨rfl, HL5.out⟩
  | some l =>
    obtain ⟨_, hk0, hpl⟩ := print_is hp
    have hle := parse_port_le hpl
    have hll : l.length ≤ 200000 := by
      rw [(print_is hp).1]
      exact line_len (by rw [bs_length]; omega) hle.2
    obtain ⟨T, hT⟩ : ∃ T, str l = T := ⟨_, rfl⟩
    have hTz : T.size ≤ 200000 := by rw [← hT, str_size]; exact hll
    have hTb : bs T = l := by rw [← hT, bs_str]
    have P0 := Lib.hid (fun w hE => parse_any (B := W.heap.size) T w hE (by omega))
    rw [hTb, hpl] at P0
    unfold ResP resT at P0
    simp only at P0
    rw [str_bs] at P0
    rw [show Rl.optT (some l) = .tuple #[.string T, .bool true] by rw [← hT]; rfl]
    have m1 : (H.toList == H.toList) = true := by simp
    have m2 : (k != k) = false := by simp
    clear hp hpl hle hll hT hTb hk0
    go_wp2_with fail
    refine (P0.out w2 (HE.out.on HL2.out)).mono ?_
    rintro e w3 ⟨rfl, hb⟩
    have HL3 := Lib.hid (HL2.out.trans (hb.mono HL2.out.size))
    clear hb P0 HL2
    go_wp2_with fail
    refine (P2.out _ (HE.out.on HL3.out)).mono ?_
    rintro e w5 ⟨rfl, hb⟩
    have HL5 := Lib.hid (HL3.out.trans (hb.mono HL3.out.size))
    clear hb P2 HL3
    by_cases c1 : f = 0
    · subst c1
      obtain ⟨hp1, hp2, hp3, hp4⟩ := HOk.out rfl
      have zp : (-9223372036854775808 : Int) ≤ p ∧ p ≤ 9223372036854775807 := by omega
      have P3 := Lib.hid (fun w hE => print_any (B := W.heap.size) X p w hE (by omega) zp)
      rw [hXb, print_yes hp3 hp1] at P3
      have hll := line_len (h := b) (p := p) (by omega) hp4
      obtain ⟨Y, hY⟩ : ∃ Y, str (lineS b p) = Y := ⟨_, rfl⟩
      have hYz : Y.size ≤ 200000 := by rw [← hY, str_size]; exact hll
      have hYb : bs Y = lineS b p := by rw [← hY, bs_str]
      have P4 := Lib.hid (fun w hE => parse_any (B := W.heap.size) Y w hE (by omega))
      rw [hYb, hp1] at P4
      unfold ResP resT at P4
      simp only at P4
      rw [show Rl.optT (some (lineS b p)) = .tuple #[.string Y, .bool true] by rw [← hY]; rfl] at P3
      rw [hX] at P4
      have n1 : (X.toList == []) = false := by rw [empty_is, hXb]; exact decide_eq_false hp2
      have e1 : (X.toList == X.toList) = true := by simp
      have e2 : (p == p) = true := by simp
      have e3 : (0 : Int) ≤ p := hp3
      have e4 : p < 65536 := by omega
      clear hp1 hp2 hp3 hp4 zp hY hYb hll HNo HOk hX hXb hk
      go_wp2_with fail
      refine (P3.out w5 (HE.out.on HL5.out)).mono ?_
      rintro e w6 ⟨rfl, hb⟩
      have HL6 := Lib.hid (HL5.out.trans (hb.mono HL5.out.size))
      clear hb P3 HL5
      go_wp2_with fail
      refine (P4.out w6 (HE.out.on HL6.out)).mono ?_
      rintro e w7 ⟨rfl, hb⟩
      have HL7 := Lib.hid (HL6.out.trans (hb.mono HL6.out.size))
      clear hb P4 HL6
      go_wp2_with fail
      go_ret
      exact ⟨rfl, HL7.out⟩
    · have n1 : (f != 0) = true := by simpa using c1
      obtain ⟨g1, g2⟩ := HNo.out c1
      subst g2
      have e1 : (X.toList == []) = true := by rw [empty_is, hXb]; exact decide_eq_true g1
      clear c1 g1 HNo HOk hX hXb hk
      go_wp2_with fail
      go_ret
      exact ⟨rfl, HL5.out⟩

set_option maxRecDepth 100000 in
set_option linter.unusedVariables false in
theorem lifted (os : Os) (started : os.Started) (H : Type) (enc : TypeId × Value → H) :
    ReturnsInHanded {} Tryd.checked os 4 .any (fun w args => (Rows.authorityBackSpec.pre enc Tryd.prog Tryd.f4 [] false w args ∧ laidMetH Tryd.prog laid3 w) ∧ sizedMet enc Tryd.prog Tryd.f4 (OpenSpec.ofChange Rows.authorityBackSpec) false w args)
      (Rows.authorityBackSpec.post enc Tryd.prog Tryd.f4 false true false false) := by
  refine returns_laid (C := Tryd.checked) (X := fun w _ => laidMetH Tryd.prog laid3 w) (fun _ _ _ hh h => h.of_heap hh) own started (by kernel_rfl) Tryd.func4
    (ChangeSpec.witness_shaped (enc := enc) (C := Tryd.checked) (os := os) (X := fun w _ => laidMetH Tryd.prog laid3 w) false (World.doorLaid Tryd.prog 24 os) #[.string .empty, .int .i64 0, .string .empty] 8 rfl (World.shaped_of_RefB (by kernel_rfl) (by kernel_rfl)) (by kernel_rfl) (by kernel_rfl) (by kernel_rfl) (door_met os _)) ?_
  intro W base args ds gs before hval0 hW hL hshp
  have hE := env_of hL hshp
  have hval : ∀ (j : Nat) t v, Tryd.f4.params[j]? = some t → args[j]? = some v → Value.okWide Tryd.prog W .any base t v := hval0
  have hW' := hW
  obtain ⟨p, q, hA0, hV, rfl, hfz, hnd⟩ := hW
  have hA : DataW.TrodAll enc Tryd.prog W 0 (fun _ => true) true Tryd.f4.params.toList args.toList ds p := hA0
  rw [Tryd.params4] at hA hval
  obtain ⟨v0, vs0, d0, ds0, p0, q0, hargs, rfl, rfl, h0, r0⟩ := trodAll_cons hA
  obtain ⟨v1, vs1, d1, ds1, p1, q1, rfl, rfl, rfl, h1, r1⟩ := trodAll_cons r0
  obtain ⟨v2, vs2, d2, ds2, p2, q2, rfl, rfl, rfl, h2, r2⟩ := trodAll_cons r1
  obtain ⟨rfl, rfl, rfl⟩ := trodAll_nil r2
  obtain rfl : args = #[v0, v1, v2] := by cases args; simp_all
  obtain ⟨rfl, rfl⟩ := trodVars_none hV
  have k0 := h0
  have lt0 : ∀ x ∈ p0, x.block < W.heap.size := by obtain ⟨m, hm⟩ := k0; exact DataW.trod_lt m _ _ _ hm
  obtain ⟨s0, rfl, rfl, rfl, hs0⟩ := open_string Tryd.underlying9 (hval 0 9 v0 rfl rfl) h0
  have k1 := h1
  have lt1 : ∀ x ∈ p1, x.block < W.heap.size := by obtain ⟨m, hm⟩ := k1; exact DataW.trod_lt m _ _ _ hm
  obtain ⟨a1, rfl, rfl, rfl, w1⟩ := open_int Tryd.underlying3 (hval 1 3 v1 rfl rfl) h1
  have b1 := int_of w1
  have k2 := h2
  have lt2 : ∀ x ∈ p2, x.block < W.heap.size := by obtain ⟨m, hm⟩ := k2; exact DataW.trod_lt m _ _ _ hm
  obtain ⟨s2, rfl, rfl, rfl, hs2⟩ := open_string Tryd.underlying9 (hval 2 9 v2 rfl rfl) h2
  clear hA0 hval0
  refine (walk W s0 hs0 a1 b1 s2 hs2 hE).mono fun e W' ⟨he, bel⟩ => ?_
  subst he
  exact ⟨_, rfl, _, _, _, [], _, [], hW', trodAll_mk1 (shut_bool Tryd.underlying4 _), (trodAll_cons_mk (Below.trod Lift.laidOut (by kernel_rfl) (of_decide_eq_true (by kernel_rfl)) k0 bel lt0) (trodAll_cons_mk (Below.trod Lift.laidOut (by kernel_rfl) (of_decide_eq_true (by kernel_rfl)) k1 bel lt1) (trodAll_cons_mk (Below.trod Lift.laidOut (by kernel_rfl) (of_decide_eq_true (by kernel_rfl)) k2 bel lt2) trodAll_mk0))), rfl, bel.frame _, fun h => by cases h⟩

theorem over : Rows.authorityBackRow.holds Tryd.pinned (OpenSpec.ofChange Rows.authorityBackSpec) :=
  OpenClaim.holds_of_wide 4 Tryd.f4 rfl rfl rfl rfl rfl rfl rfl ⟨rfl, rfl, rfl, rfl, rfl⟩ rfl rfl rfl rfl rfl (by kernel_rfl) Tryd.func4 (by kernel_rfl)
    (of_decide_eq_true (by kernel_rfl)) (by unfold Func.isWrapper; first | (rw [if_pos (by decide +kernel)]; kernel_rfl) | (rw [if_neg (by decide +kernel)]; exact ⟨rfl, rfl⟩))
    (fun os started H enc _ => lifted os started H enc)

theorem proved : Rows.AuthorityBackCardSaid :=
  Claim7.holds_tied_plain_at .later [] [.data, .data, .data] true (true, "2da1d9af285a88b4bc346a5297bdf1a14c96f7c78ae00913eb4d58b8133c6718") false
    over (fun _ h => by cases h) (by kernel_rfl) (fun _ h => by cases h) authorityBack_row_tie rfl ⟨rfl, rfl⟩ (by kernel_rfl) rfl
    (fun f fn hf hfn => by
      obtain rfl : f = 4 := Option.some.inj ((show Tryd.prog.funcNamed "hagioscope/hagioscopelaw13.AuthorityBack" = some 4 by kernel_rfl).symm.trans hf) |>.symm
      obtain rfl : fn = Tryd.f4 := (Option.some.inj (Tryd.func4.symm.trans hfn)).symm
      exact ⟨by kernel_rfl, fun j t ht => by
        rw [Tryd.params4] at ht
        have hm : t ∈ [9, 3, 9] := by simpa using Array.mem_of_getElem? ht
        have hall : ([9, 3, 9].all fun u => !Tryd.prog.wantsStandIn u) = true := by kernel_rfl
        exact (show Tryd.prog.wantsStandIn t = false by simpa using List.all_eq_true.1 hall t hm)⟩)
    (by kernel_rfl)
#print axioms proved
end Go.Proofs.YtgpgkfbbpiialaaDoor.authorityBack
