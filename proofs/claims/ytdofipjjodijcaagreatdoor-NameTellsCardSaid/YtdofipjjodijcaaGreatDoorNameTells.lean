/-
  NameTells: package name tells names in their one form, and their labels, as the document does; else the small case comes out right. Conditions: none beyond the statement's own.
-/
import Derived.Test.YtdofipjjodijcaaGreatDoorMNm
import Derived.Test.YtdofipjjodijcaaGreatDoorMNr
import Derived.Test.YtdofipjjodijcaaGreatDoorMLi
import Derived.Test.YtdofipjjodijcaaGreatDoorCards
import Derived.Test.YtdofipjjodijcaaGreatDoorTie
set_option maxRecDepth 100000
namespace Go.Proofs.YtdofipjjodijcaaGreatDoor.nameTells
open Go.ChangeMaps (open_string shut_string)
open Go.ChangeShapes Go.WideShapes Go.ChangeAt Go.RowKit Go.Proofs.YtdofipjjodijcaaGreatDoor.Wd Go.Proofs.YtdofipjjodijcaaGreatDoor.Asc Go.Proofs.YtdofipjjodijcaaGreatDoor.Ad Go.Proofs.YtdofipjjodijcaaGreatDoor.Nm Go.Proofs.YtdofipjjodijcaaGreatDoor.Lift

set_option linter.unusedSimpArgs false in
set_option maxHeartbeats 16000000 in
theorem walk (W : World) (S : ByteArray) (hS0 : S.size ≤ maxLen) (hE : Ad.Env W.heap.size W) :
    Calls Tryz.prog 3 #[.string S] W fun e w' => e = .returned (.bool true) ∧ Below W.heap.size W w' := by
  have sS : S.size ≤ 9223372036854775807 := hS0
  have HE := Lib.hid hE
  have HS := Lib.hid (small_any W hE)
  clear hE hS0
  go_enter Tryz.func3, Tryz.ntmps3
  go_wp2_with fail
  refine HS.out.mono ?_
  rintro e w1 ⟨rfl, hb⟩
  have HL1 := Lib.hid hb
  clear hb HS
  by_cases h1 : 600 < S.size
  · have i1 : (600 : Int) < (S.size : Int) := by omega
    go_wp2_with fail
    go_ret
    exact ⟨rfl, HL1.out⟩
  have i1 : ¬ (600 : Int) < (S.size : Int) := by omega
  have hs : S.size ≤ 600 := by omega
  obtain ⟨q, hq⟩ : ∃ q, normalS (bs S) = q := ⟨_, rfl⟩
  obtain ⟨n, e⟩ := q
  obtain ⟨N, hN⟩ : ∃ N, str n = N := ⟨_, rfl⟩
  have HN1 := Lib.hid (fun w hE => norm_at (B := W.heap.size) S (by omega) n e N hq hN w hE)
  have HN2 : Hid (∀ w, Calls Tryz.prog 6 #[.string S] w fun x w' => x = .returned (.tuple #[.string N, .int .i64 e]) ∧ Below w.heap.size w w') := Lib.hid (fun w => by
    have h := rnorm_any S w (by omega)
    rw [hq] at h
    rw [← hN]
    exact h)
  have HA := Lib.hid (fun w hE => labels_any (B := W.heap.size) S w hE (by omega))
  have HB := Lib.hid (fun w => rlabels_any S w (by omega))
  have hlen : (labelsS (bs S)).length ≤ 140737488351232 := by
    have h := spl_len 46 (bs S)
    rw [bs_length] at h
    unfold labelsS
    split
    · exact Nat.le_trans (Nat.le_refl 1) (by decide)
    · rw [List.length_reverse]; omega
  obtain ⟨L, hL⟩ : ∃ L, labelsS (bs S) = L := ⟨_, rfl⟩
  rw [hL] at HA HB hlen
  have HR := Lib.hid (fun u v w h1 h2 => rrows_any u v L w h1 h2 hlen)
  have fN : (N.toList == N.toList) = true := beq_self_eq_true _
  have fe : (e == e) = true := beq_self_eq_true _
  clear hq hN hlen hL h1 hs
  go_wp2_with fail
  refine (HN1.out w1 (HE.out.below HL1.out)).mono ?_
  rintro e' w2 ⟨rfl, hb⟩
  have HL2 := Lib.hid (HL1.out.trans (hb.mono HL1.out.size))
  clear hb HN1 HL1
  go_wp2_with fail
  refine (HN2.out w2).mono ?_
  rintro e' w3 ⟨rfl, hb⟩
  have HL3 := Lib.hid (HL2.out.trans (hb.mono HL2.out.size))
  clear hb HN2 HL2
  go_wp2_with fail
  refine (HA.out w3 (HE.out.below HL3.out)).mono ?_
  rintro e' w4 ⟨u, rfl, hr, hb⟩
  have HL4 := Lib.hid (HL3.out.trans (hb.mono HL3.out.size))
  have HU := Lib.hid hr
  clear hb hr HA HL3
  go_wp2_with fail
  refine (HB.out w4).mono ?_
  rintro e' w5 ⟨v, rfl, hr, hb⟩
  have HU5 := Lib.hid (HU.out.below hb)
  have HL5 := Lib.hid (HL4.out.trans (hb.mono HL4.out.size))
  have HV := Lib.hid hr
  clear hb hr HB HL4 HU
  go_wp2_with fail
  refine (HR.out u v w5 HU5.out HV.out).mono ?_
  rintro e' w6 ⟨rfl, hb⟩
  have HL6 := Lib.hid (HL5.out.trans (hb.mono HL5.out.size))
  clear hb HR HL5 HU5 HV
  go_wp2_with fail
  go_ret
  exact ⟨rfl, HL6.out⟩

set_option maxRecDepth 100000 in
set_option linter.unusedVariables false in
theorem lifted (os : Os) (started : os.Started) (H : Type) (enc : TypeId × Value → H) :
    ReturnsInHanded {} Tryz.checked os 3 .any (fun w args => (Rows.nameTellsSpec.pre enc Tryz.prog Tryz.f3 [] false w args ∧ laidMetH Tryz.prog laid5 w) ∧ sizedMet enc Tryz.prog Tryz.f3 (OpenSpec.ofChange Rows.nameTellsSpec) false w args)
      (Rows.nameTellsSpec.post enc Tryz.prog Tryz.f3 false true false false) := by
  refine returns_laid (C := Tryz.checked) (X := fun w _ => laidMetH Tryz.prog laid5 w) (fun _ _ _ hh h => h.of_heap hh) own started (by kernel_rfl) Tryz.func3
    (ChangeSpec.witness_shaped (enc := enc) (C := Tryz.checked) (os := os) (X := fun w _ => laidMetH Tryz.prog laid5 w) false (World.laidAll Tryz.prog os laid5) #[.string .empty] 8 (World.laidAll_os _ _ _)
      (World.shaped_of_ZipB (by kernel_rfl) (by kernel_rfl)) (by kernel_rfl) (by kernel_rfl) (by kernel_rfl) (door_met5 os _)) ?_
  intro W base args ds gs before hval0 hW hL hshp
  have hE := env_of5 hL hshp
  have hval : ∀ (j : Nat) t v, Tryz.f3.params[j]? = some t → args[j]? = some v → Value.okWide Tryz.prog W .any base t v := hval0
  have hW' := hW
  obtain ⟨p, q, hA0, hV, rfl, hfz, hnd⟩ := hW
  have hA : DataW.TrodAll enc Tryz.prog W 0 (fun _ => true) true Tryz.f3.params.toList args.toList ds p := hA0
  rw [Tryz.params3] at hA hval
  obtain ⟨v0, vs0, d0, ds0, p0, q0, hargs, rfl, rfl, h0, r0⟩ := trodAll_cons hA
  obtain ⟨rfl, rfl, rfl⟩ := trodAll_nil r0
  obtain rfl : args = #[v0] := by cases args; simp_all
  obtain ⟨rfl, rfl⟩ := trodVars_none hV
  have k0 := h0
  have lt0 : ∀ x ∈ p0, x.block < W.heap.size := by obtain ⟨m, hm⟩ := k0; exact DataW.trod_lt m _ _ _ hm
  obtain ⟨s0, rfl, rfl, rfl, hs0⟩ := open_string Tryz.underlying9 (hval 0 9 v0 rfl rfl) h0
  clear hA0 hval0
  refine (walk W s0 hs0 hE).mono fun e W' ⟨he, bel⟩ => ?_
  subst he
  exact ⟨_, rfl, _, _, _, [], _, [], hW', trodAll_mk1 (shut_bool Tryz.underlying4 _), (trodAll_cons_mk (Below.trod Lift.laidOut (by kernel_rfl) (of_decide_eq_true (by kernel_rfl)) k0 bel lt0) trodAll_mk0), rfl, bel.frame _, fun h => by cases h⟩

theorem over : Rows.nameTellsRow.holds Tryz.pinned (OpenSpec.ofChange Rows.nameTellsSpec) :=
  OpenClaim.holds_of_wide 3 Tryz.f3 rfl rfl rfl rfl rfl rfl rfl ⟨rfl, rfl, rfl, rfl, rfl⟩ rfl rfl rfl rfl rfl (by kernel_rfl) Tryz.func3 (by kernel_rfl)
    (of_decide_eq_true (by kernel_rfl)) (by unfold Func.isWrapper; first | (rw [if_pos (by decide +kernel)]; kernel_rfl) | (rw [if_neg (by decide +kernel)]; exact ⟨rfl, rfl⟩))
    (fun os started H enc _ => lifted os started H enc)

theorem proved : Rows.NameTellsCardSaid :=
  Claim7.holds_tied_plain_at .later [] [.data, .data, .data, .data, .pinned] true (true, "074116b74d8c6982db2707812730df3ce3d41af8749a24788cbcfc7116a527b1") false
    over (fun _ h => by cases h) (by kernel_rfl) (fun _ h => by cases h) nameTells_row_tie rfl ⟨rfl, rfl⟩ (by kernel_rfl) rfl
    (fun f fn hf hfn => by
      obtain rfl : f = 3 := Option.some.inj ((show Tryz.prog.funcNamed "hagioscope/hagioscopelaw14.NameTells" = some 3 by kernel_rfl).symm.trans hf) |>.symm
      obtain rfl : fn = Tryz.f3 := (Option.some.inj (Tryz.func3.symm.trans hfn)).symm
      exact ⟨by kernel_rfl, fun j t ht => by
        rw [Tryz.params3] at ht
        have hm : t ∈ [9] := by simpa using Array.mem_of_getElem? ht
        have hall : ([9].all fun u => !Tryz.prog.wantsStandIn u) = true := by kernel_rfl
        exact (show Tryz.prog.wantsStandIn t = false by simpa using List.all_eq_true.1 hall t hm)⟩)
    (by kernel_rfl)
#print axioms proved
end Go.Proofs.YtdofipjjodijcaaGreatDoor.nameTells
