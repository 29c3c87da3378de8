/-
  AuthorityParses: package authority parses a text as the document's own parser does, whatever the text; else the small case comes out right. Conditions: none beyond the statement's own.
-/
import Derived.Test.YtgpgkfbbpiialaaDoorAuSmall
import Derived.Test.YtgpgkfbbpiialaaDoorAuRPar
import Derived.Test.YtgpgkfbbpiialaaDoorMLi
import Derived.Test.YtgpgkfbbpiialaaDoorCards
import Derived.Test.YtgpgkfbbpiialaaDoorTie
set_option maxRecDepth 100000
namespace Go.Proofs.YtgpgkfbbpiialaaDoor.authorityParses
open Go.ChangeMaps (open_string shut_string)
open Go.ChangeShapes Go.WideShapes Go.ChangeAt Go.RowKit Go.Proofs.YtgpgkfbbpiialaaDoor.Wd Go.Proofs.YtgpgkfbbpiialaaDoor.Asc Go.Proofs.YtgpgkfbbpiialaaDoor.Tx Go.Proofs.YtgpgkfbbpiialaaDoor.St Go.Proofs.YtgpgkfbbpiialaaDoor.Au Go.Proofs.YtgpgkfbbpiialaaDoor.Lift

set_option linter.unusedSimpArgs false in
set_option maxHeartbeats 8000000 in
theorem walk (W : World) (S : ByteArray) (hS0 : S.size ≤ maxLen) (hE : Ad.Env W.heap.size W) :
    Calls Tryd.prog 3 #[.string S] W fun e w' => e = .returned (.bool true) ∧ Below W.heap.size W w' := by
  have sS : S.size ≤ 9223372036854775807 := hS0
  have HE := Lib.hid hE
  have HS := Lib.hid (small_any W hE)
  clear hE hS0
  go_enter Tryd.func3, Tryd.ntmps3
  go_wp2_with fail
  refine HS.out.mono ?_
  rintro e w1 ⟨rfl, hb⟩
  have HL1 := Lib.hid hb
  clear hb HS
  by_cases h1 : 2000 < S.size
  · have i1 : (2000 : Int) < (S.size : Int) := by omega
    go_wp2_with fail
    go_ret
    exact ⟨rfl, HL1.out⟩
  have i1 : ¬ (2000 : Int) < (S.size : Int) := by omega
  have P1 := Lib.hid (fun w hE => parse_any (B := W.heap.size) S w hE (by omega))
  have P2 := Lib.hid (fun w => rparse_any S w (by omega))
  obtain ⟨q, hq⟩ : ∃ q, parseS (bs S) = q := ⟨_, rfl⟩
  rw [hq] at P1 P2
  obtain ⟨h, p, e⟩ := q
  unfold ResP resT at P1 P2
  simp only at P1 P2
  obtain ⟨H, hH⟩ : ∃ H, str h = H := ⟨_, rfl⟩
  rw [hH] at P1 P2
  have e1 : (H.toList == H.toList) = true := by simp
  have e2 : (p == p) = true := by simp
  have e3 : (e == e) = true := by simp
  clear h1 hq hH
  go_wp2_with fail
  refine (P1.out w1 (HE.out.on HL1.out)).mono ?_
  rintro e' w2 ⟨rfl, hb⟩
  have HL2 := Lib.hid (HL1.out.trans (hb.mono HL1.out.size))
  clear hb P1
  go_wp2_with fail
  refine (P2.out w2).mono ?_
  rintro e' w3 ⟨rfl, hb⟩
  have HL3 := Lib.hid (HL2.out.trans (hb.mono HL2.out.size))
  clear hb P2
  go_wp2_with fail
  go_ret
  exact ⟨rfl, HL3.out⟩

set_option maxRecDepth 100000 in
set_option linter.unusedVariables false in
theorem lifted (os : Os) (started : os.Started) (H : Type) (enc : TypeId × Value → H) :
    ReturnsInHanded {} Tryd.checked os 3 .any (fun w args => (Rows.authorityParsesSpec.pre enc Tryd.prog Tryd.f3 [] false w args ∧ laidMetH Tryd.prog laid3 w) ∧ sizedMet enc Tryd.prog Tryd.f3 (OpenSpec.ofChange Rows.authorityParsesSpec) false w args)
      (Rows.authorityParsesSpec.post enc Tryd.prog Tryd.f3 false true false false) := by
  refine returns_laid (C := Tryd.checked) (X := fun w _ => laidMetH Tryd.prog laid3 w) (fun _ _ _ hh h => h.of_heap hh) own started (by kernel_rfl) Tryd.func3
    (ChangeSpec.witness_shaped (enc := enc) (C := Tryd.checked) (os := os) (X := fun w _ => laidMetH Tryd.prog laid3 w) false (World.doorLaid Tryd.prog 24 os) #[.string .empty] 8 rfl (World.shaped_of_RefB (by kernel_rfl) (by kernel_rfl)) (by kernel_rfl) (by kernel_rfl) (by kernel_rfl) (door_met os _)) ?_
  intro W base args ds gs before hval0 hW hL hshp
  have hE := env_of hL hshp
  have hval : ∀ (j : Nat) t v, Tryd.f3.params[j]? = some t → args[j]? = some v → Value.okWide Tryd.prog W .any base t v := hval0
  have hW' := hW
  obtain ⟨p, q, hA0, hV, rfl, hfz, hnd⟩ := hW
  have hA : DataW.TrodAll enc Tryd.prog W 0 (fun _ => true) true Tryd.f3.params.toList args.toList ds p := hA0
  rw [Tryd.params3] at hA hval
  obtain ⟨v0, vs0, d0, ds0, p0, q0, hargs, rfl, rfl, h0, r0⟩ := trodAll_cons hA
  obtain ⟨rfl, rfl, rfl⟩ := trodAll_nil r0
  obtain rfl : args = #[v0] := by cases args; simp_all
  obtain ⟨rfl, rfl⟩ := trodVars_none hV
  have k0 := h0
  have lt0 : ∀ x ∈ p0, x.block < W.heap.size := by obtain ⟨m, hm⟩ := k0; exact DataW.trod_lt m _ _ _ hm
  obtain ⟨s0, rfl, rfl, rfl, hs0⟩ := open_string Tryd.underlying9 (hval 0 9 v0 rfl rfl) h0
  clear hA0 hval0
  refine (walk W s0 hs0 hE).mono fun e W' ⟨he, bel⟩ => ?_
  subst he
  exact ⟨_, rfl, _, _, _, [], _, [], hW', trodAll_mk1 (shut_bool Tryd.underlying4 _), (trodAll_cons_mk (Below.trod Lift.laidOut (by kernel_rfl) (of_decide_eq_true (by kernel_rfl)) k0 bel lt0) trodAll_mk0), rfl, bel.frame _, fun h => by cases h⟩

theorem over : Rows.authorityParsesRow.holds Tryd.pinned (OpenSpec.ofChange Rows.authorityParsesSpec) :=
  OpenClaim.holds_of_wide 3 Tryd.f3 rfl rfl rfl rfl rfl rfl rfl ⟨rfl, rfl, rfl, rfl, rfl⟩ rfl rfl rfl rfl rfl (by kernel_rfl) Tryd.func3 (by kernel_rfl)
    (of_decide_eq_true (by kernel_rfl)) (by unfold Func.isWrapper; first | (rw [if_pos (by decide +kernel)]; kernel_rfl) | (rw [if_neg (by decide +kernel)]; exact ⟨rfl, rfl⟩))
    (fun os started H enc _ => lifted os started H enc)

theorem proved : Rows.AuthorityParsesCardSaid :=
  Claim7.holds_tied_plain_at .later [] [.data, .data, .data] true (true, "2da1d9af285a88b4bc346a5297bdf1a14c96f7c78ae00913eb4d58b8133c6718") false
    over (fun _ h => by cases h) (by kernel_rfl) (fun _ h => by cases h) authorityParses_row_tie rfl ⟨rfl, rfl⟩ (by kernel_rfl) rfl
    (fun f fn hf hfn => by
      obtain rfl : f = 3 := Option.some.inj ((show Tryd.prog.funcNamed "hagioscope/hagioscopelaw13.AuthorityParses" = some 3 by kernel_rfl).symm.trans hf) |>.symm
      obtain rfl : fn = Tryd.f3 := (Option.some.inj (Tryd.func3.symm.trans hfn)).symm
      exact ⟨by kernel_rfl, fun j t ht => by
        rw [Tryd.params3] at ht
        have hm : t ∈ [9] := by simpa using Array.mem_of_getElem? ht
        have hall : ([9].all fun u => !Tryd.prog.wantsStandIn u) = true := by kernel_rfl
        exact (show Tryd.prog.wantsStandIn t = false by simpa using List.all_eq_true.1 hall t hm)⟩)
    (by kernel_rfl)
#print axioms proved
end Go.Proofs.YtgpgkfbbpiialaaDoor.authorityParses
