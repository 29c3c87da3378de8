/-
  AuthorityPorts: each port from 1 to 65535 may stand behind a host that is parsed without one, and no other number up to a million; else the small case comes out right. Conditions: none beyond the statement's own.
-/
import Derived.Test.YtgpgkfbbpiialaaDoorAuSmall
import Derived.Test.YtgpgkfbbpiialaaDoorMLi
import Derived.Test.YtgpgkfbbpiialaaDoorCards
import Derived.Test.YtgpgkfbbpiialaaDoorTie
set_option maxRecDepth 100000
namespace Go.Proofs.YtgpgkfbbpiialaaDoor.authorityPorts
open Go.ChangeMaps (open_string shut_string)
open Go.ChangeShapes Go.WideShapes Go.ChangeAt Go.RowKit Go.Proofs.YtgpgkfbbpiialaaDoor.Wd Go.Proofs.YtgpgkfbbpiialaaDoor.Asc Go.Proofs.YtgpgkfbbpiialaaDoor.Tx Go.Proofs.YtgpgkfbbpiialaaDoor.St Go.Proofs.YtgpgkfbbpiialaaDoor.Au Go.Proofs.YtgpgkfbbpiialaaDoor.Lift

set_option linter.unusedSimpArgs false in
set_option maxHeartbeats 8000000 in
theorem walk (W : World) (S : ByteArray) (hS0 : S.size ≤ maxLen) (k : Int) (hk : -9223372036854775808 ≤ k ∧ k ≤ 9223372036854775807) (hE : Ad.Env W.heap.size W) :
    Calls Tryd.prog 5 #[.string S, .int .i64 k] W fun e w' => e = .returned (.bool true) ∧ Below W.heap.size W w' := by
  have sS : S.size ≤ 9223372036854775807 := hS0
  have k0 := hk.1
  have k1 := hk.2
  have HE := Lib.hid hE
  have HS := Lib.hid (small_any W hE)
  clear hE hS0 hk
  go_enter Tryd.func5, Tryd.ntmps5
  go_wp2_with fail
  refine HS.out.mono ?_
  rintro e w1 ⟨rfl, hb⟩
  have HL1 := Lib.hid hb
  clear hb HS
  by_cases h1 : 1000 < S.size
  · have i1 : (1000 : Int) < (S.size : Int) := by omega
    go_wp2_with fail
    go_ret
    exact ⟨rfl, HL1.out⟩
  have i1 : ¬ (1000 : Int) < (S.size : Int) := by omega
  by_cases h2 : k < 0
  · go_wp2_with fail
    go_ret
    exact ⟨rfl, HL1.out⟩
  by_cases h3 : 1000000 < k
  · go_wp2_with fail
    go_ret
    exact ⟨rfl, HL1.out⟩
  obtain ⟨n, rfl⟩ := Int.eq_ofNat_of_zero_le (show 0 ≤ k by omega)
  have P1 := Lib.hid (fun w hE => parse_any (B := W.heap.size) S w hE (by omega))
  have HM := Lib.hid (fun h (hp : parseS (bs S) = (h, 0, 0)) => more_port hp n (by omega))
  obtain ⟨q, hq⟩ : ∃ q, parseS (bs S) = q := ⟨_, rfl⟩
  rw [hq] at P1 HM
  obtain ⟨h, p, e⟩ := q
  unfold ResP resT at P1
  simp only at P1
  obtain ⟨H, hH⟩ : ∃ H, str h = H := ⟨_, rfl⟩
  rw [hH] at P1
  obtain ⟨T, hT⟩ : ∃ T, txtS n = T := ⟨_, rfl⟩
  have HT := Lib.hid (fun w => text_any n (n : Int) w rfl (by omega))
  rw [hT] at HT
  have zT : T.size ≤ 7 := by rw [← hT, ← bs_length, bs_txt]; exact txt_short 6 n (by omega)
  have z1 : (S ++ (⟨#[58]⟩ : ByteArray)).size ≤ 1001 := by rw [ByteArray.size_append]; show _ + 1 ≤ _; omega
  obtain ⟨X, hX⟩ : ∃ X, S ++ (⟨#[58]⟩ : ByteArray) ++ T = X := ⟨_, rfl⟩
  have HX := Lib.hid hX
  have zX : X.size ≤ 1008 := by rw [← hX, ByteArray.size_append]; omega
  have hXb : bs X = bs S ++ 58 :: txtL n := by
    rw [← hX, ← hT]
    simp only [bs_add, bs_txt]
    simp [bs]
  have P2 := Lib.hid (fun w hE => parse_any (B := W.heap.size) X w hE (by omega))
  rw [hXb] at P2
  clear hq hT hX hXb h1 zX
  go_wp2_with fail
  refine (P1.out w1 (HE.out.on HL1.out)).mono ?_
  rintro e' w2 ⟨rfl, hb⟩
  have HL2 := Lib.hid (HL1.out.trans (hb.mono HL1.out.size))
  clear hb P1
  by_cases c1 : e = 0
  · subst c1
    by_cases c2 : p = 0
    · subst c2
      have hM := HM.out h rfl
      rw [hM] at P2
      clear HM hM
      go_wp2_with fail
      refine (HT.out _).mono ?_
      rintro e' w3 ⟨rfl, rfl⟩
      clear HT
      go_wp2_with fail
      rw [HX.out]
      by_cases c3 : 1 ≤ n ∧ n ≤ 65535
      · rw [if_pos c3] at P2
        unfold ResP resT at P2
        simp only at P2
        rw [hH] at P2
        have c4 : ¬ (n : Int) < 1 := by omega
        have c5 : ¬ (65535 : Int) < (n : Int) := by omega
        have e1 : (H.toList == H.toList) = true := by simp
        have e2 : ((n : Int) == (n : Int)) = true := by simp
        clear c3 hH
        refine (P2.out w2 (HE.out.on HL2.out)).mono ?_
        rintro e' w3 ⟨rfl, hb⟩
        have HL3 := Lib.hid (HL2.out.trans (hb.mono HL2.out.size))
        clear hb P2
        go_wp2_with fail
        go_ret
        exact ⟨rfl, HL3.out⟩
      · rw [if_neg c3] at P2
        unfold ResP resT at P2
        simp only at P2
        have e1 : ((str []).toList == []) = true := by rw [Lib.toList_data]; rfl
        refine (P2.out w2 (HE.out.on HL2.out)).mono ?_
        rintro e' w3 ⟨rfl, hb⟩
        have HL3 := Lib.hid (HL2.out.trans (hb.mono HL2.out.size))
        clear hb P2
        by_cases c4 : (n : Int) < 1
        · clear c3
          go_wp2_with fail
          go_ret
          exact ⟨rfl, HL3.out⟩
        · have c5 : (65535 : Int) < (n : Int) := by omega
          clear c3
          go_wp2_with fail
          go_ret
          exact ⟨rfl, HL3.out⟩
    · have n2 : (p != 0) = true := by simpa using c2
      clear HM c2
      go_wp2_with fail
      go_ret
      exact ⟨rfl, HL2.out⟩
  · have n1 : (e != 0) = true := by simpa using c1
    clear HM c1
    go_wp2_with fail
    go_ret
    exact ⟨rfl, HL2.out⟩

set_option maxRecDepth 100000 in
set_option linter.unusedVariables false in
theorem lifted (os : Os) (started : os.Started) (H : Type) (enc : TypeId × Value → H) :
    ReturnsInHanded {} Tryd.checked os 5 .any (fun w args => (Rows.authorityPortsSpec.pre enc Tryd.prog Tryd.f5 [] false w args ∧ laidMetH Tryd.prog laid3 w) ∧ sizedMet enc Tryd.prog Tryd.f5 (OpenSpec.ofChange Rows.authorityPortsSpec) false w args)
      (Rows.authorityPortsSpec.post enc Tryd.prog Tryd.f5 false true false false) := by
  refine returns_laid (C := Tryd.checked) (X := fun w _ => laidMetH Tryd.prog laid3 w) (fun _ _ _ hh h => h.of_heap hh) own started (by kernel_rfl) Tryd.func5
    (ChangeSpec.witness_shaped (enc := enc) (C := Tryd.checked) (os := os) (X := fun w _ => laidMetH Tryd.prog laid3 w) false (World.doorLaid Tryd.prog 24 os) #[.string .empty, .int .i64 0] 8 rfl (World.shaped_of_RefB (by kernel_rfl) (by kernel_rfl)) (by kernel_rfl) (by kernel_rfl) (by kernel_rfl) (door_met os _)) ?_
  intro W base args ds gs before hval0 hW hL hshp
  have hE := env_of hL hshp
  have hval : ∀ (j : Nat) t v, Tryd.f5.params[j]? = some t → args[j]? = some v → Value.okWide Tryd.prog W .any base t v := hval0
  have hW' := hW
  obtain ⟨p, q, hA0, hV, rfl, hfz, hnd⟩ := hW
  have hA : DataW.TrodAll enc Tryd.prog W 0 (fun _ => true) true Tryd.f5.params.toList args.toList ds p := hA0
  rw [Tryd.params5] at hA hval
  obtain ⟨v0, vs0, d0, ds0, p0, q0, hargs, rfl, rfl, h0, r0⟩ := trodAll_cons hA
  obtain ⟨v1, vs1, d1, ds1, p1, q1, rfl, rfl, rfl, h1, r1⟩ := trodAll_cons r0
  obtain ⟨rfl, rfl, rfl⟩ := trodAll_nil r1
  obtain rfl : args = #[v0, v1] := by cases args; simp_all
  obtain ⟨rfl, rfl⟩ := trodVars_none hV
  have k0 := h0
  have lt0 : ∀ x ∈ p0, x.block < W.heap.size := by obtain ⟨m, hm⟩ := k0; exact DataW.trod_lt m _ _ _ hm
  obtain ⟨s0, rfl, rfl, rfl, hs0⟩ := open_string Tryd.underlying9 (hval 0 9 v0 rfl rfl) h0
  have k1 := h1
  have lt1 : ∀ x ∈ p1, x.block < W.heap.size := by obtain ⟨m, hm⟩ := k1; exact DataW.trod_lt m _ _ _ hm
  obtain ⟨a1, rfl, rfl, rfl, w1⟩ := open_int Tryd.underlying3 (hval 1 3 v1 rfl rfl) h1
  have b1 := int_of w1
  clear hA0 hval0
  refine (walk W s0 hs0 a1 b1 hE).mono fun e W' ⟨he, bel⟩ => ?_
  subst he
  exact ⟨_, rfl, _, _, _, [], _, [], hW', trodAll_mk1 (shut_bool Tryd.underlying4 _), (trodAll_cons_mk (Below.trod Lift.laidOut (by kernel_rfl) (of_decide_eq_true (by kernel_rfl)) k0 bel lt0) (trodAll_cons_mk (Below.trod Lift.laidOut (by kernel_rfl) (of_decide_eq_true (by kernel_rfl)) k1 bel lt1) trodAll_mk0)), rfl, bel.frame _, fun h => by cases h⟩

theorem over : Rows.authorityPortsRow.holds Tryd.pinned (OpenSpec.ofChange Rows.authorityPortsSpec) :=
  OpenClaim.holds_of_wide 5 Tryd.f5 rfl rfl rfl rfl rfl rfl rfl ⟨rfl, rfl, rfl, rfl, rfl⟩ rfl rfl rfl rfl rfl (by kernel_rfl) Tryd.func5 (by kernel_rfl)
    (of_decide_eq_true (by kernel_rfl)) (by unfold Func.isWrapper; first | (rw [if_pos (by decide +kernel)]; kernel_rfl) | (rw [if_neg (by decide +kernel)]; exact ⟨rfl, rfl⟩))
    (fun os started H enc _ => lifted os started H enc)

theorem proved : Rows.AuthorityPortsCardSaid :=
  Claim7.holds_tied_plain_at .later [] [.data, .data, .data] true (true, "2da1d9af285a88b4bc346a5297bdf1a14c96f7c78ae00913eb4d58b8133c6718") false
    over (fun _ h => by cases h) (by kernel_rfl) (fun _ h => by cases h) authorityPorts_row_tie rfl ⟨rfl, rfl⟩ (by kernel_rfl) rfl
    (fun f fn hf hfn => by
      obtain rfl : f = 5 := Option.some.inj ((show Tryd.prog.funcNamed "hagioscope/hagioscopelaw13.AuthorityPorts" = some 5 by kernel_rfl).symm.trans hf) |>.symm
      obtain rfl : fn = Tryd.f5 := (Option.some.inj (Tryd.func5.symm.trans hfn)).symm
      exact ⟨by kernel_rfl, fun j t ht => by
        rw [Tryd.params5] at ht
        have hm : t ∈ [9, 3] := by simpa using Array.mem_of_getElem? ht
        have hall : ([9, 3].all fun u => !Tryd.prog.wantsStandIn u) = true := by kernel_rfl
        exact (show Tryd.prog.wantsStandIn t = false by simpa using List.all_eq_true.1 hall t hm)⟩)
    (by kernel_rfl)
#print axioms proved
end Go.Proofs.YtgpgkfbbpiialaaDoor.authorityPorts
