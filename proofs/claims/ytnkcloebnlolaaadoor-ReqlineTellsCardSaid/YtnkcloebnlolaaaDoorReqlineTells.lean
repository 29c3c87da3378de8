/-
  ReqlineTells: of any request whose method and target are not too long, package reqline's Print, Authority and Form answer as the document's; else the small case comes out right. Conditions: none beyond the statement's own.
-/
import Derived.Test.YtnkcloebnlolaaaDoorRlSmall
import Derived.Test.YtnkcloebnlolaaaDoorLiftReq
import Derived.Test.YtnkcloebnlolaaaDoorCards
import Derived.Test.YtnkcloebnlolaaaDoorTie
set_option maxRecDepth 100000
namespace Go.Proofs.YtnkcloebnlolaaaDoor.reqlineTells
open Go.ChangeShapes Go.WideShapes Go.ChangeAt Go.RowKit Go.Proofs.YtnkcloebnlolaaaDoor.Wd Go.Proofs.YtnkcloebnlolaaaDoor.Asc Go.Proofs.YtnkcloebnlolaaaDoor.Tx Go.Proofs.YtnkcloebnlolaaaDoor.St Go.Proofs.YtnkcloebnlolaaaDoor.Rl Go.Proofs.YtnkcloebnlolaaaDoor.Lift

set_option linter.unusedSimpArgs false in
set_option maxHeartbeats 8000000 in
theorem walk (W : World) (r : Rq) (m0 : r.meth.length ≤ maxLen) (t0 : r.targ.length ≤ maxLen) (b0 : -9223372036854775808 ≤ r.minor ∧ r.minor ≤ 9223372036854775807) (hE : Env W.heap.size W) :
    Calls Tryd.prog 3 #[.agg (rqC r)] W fun e w' => e = .returned (.bool true) ∧ Below W.heap.size W w' := by
  obtain ⟨k, hk⟩ : ∃ k, r.minor = k := ⟨_, rfl⟩
  have hC : rqC r = #[.string (str r.meth), .string (str r.targ), .int .i64 k] := by rw [← hk]; rfl
  obtain ⟨A, hA⟩ : ∃ A, str r.meth = A := ⟨_, rfl⟩
  obtain ⟨B, hB⟩ : ∃ B, str r.targ = B := ⟨_, rfl⟩
  have zA : A.size = r.meth.length := by rw [← hA, str_size]
  have zB : B.size = r.targ.length := by rw [← hB, str_size]
  have sA : A.size ≤ 9223372036854775807 := by rw [zA]; exact m0
  have sB : B.size ≤ 9223372036854775807 := by rw [zB]; exact t0
  have HA := Lib.hid hA
  have HB := Lib.hid hB
  rw [hA, hB] at hC
  rw [hC]
  have HC := Lib.hid hC
  have HE := Lib.hid hE
  have HS := Lib.hid (fun w hE => small_any (N := W.heap.size) w hE)
  clear hA hB hC hE hk m0 t0
  go_enter Tryd.func3, Tryd.ntmps3
  go_upto_region 1 with fail
  have b1 := Blk.new W 23 #[.string A, .string B, .int .i64 k]
  have hbel : Below W.heap.size W (W.alloc (.cells #[.string A, .string B, .int .i64 k] 23)) := (Below.refl _ _).alloc (Nat.le_refl _) _
  generalize W.alloc (.cells #[.string A, .string B, .int .i64 k] 23) = w1 at *
  obtain ⟨G, hG⟩ : ∃ G, W.heap.size = G := ⟨_, rfl⟩
  rw [hG] at b1 hbel HE HS ⊢
  have HG := Lib.hid hG
  have HK1 := Lib.hid b1
  have HL1 := Lib.hid hbel
  clear b1 hbel hG
  go_wp2_with fail
  refine (HS.out w1 (HE.out.below HL1.out)).mono ?_
  rintro e w2 ⟨rfl, hb⟩
  have HK2 := Lib.hid (HK1.out.below hb HK1.out.lt)
  have HL2 := Lib.hid (HL1.out.trans (hb.mono (Nat.le_of_lt HK1.out.lt)))
  have c0 := HK2.out.cell 0
  have c1 := HK2.out.cell 1
  clear hb HS HK1 HL1
  by_cases h1 : 2000 < A.size
  · have i1 : (2000 : Int) < (A.size : Int) := by omega
    go_wp2_with fail
    go_ret
    exact ⟨rfl, by rw [HG.out]; exact HL2.out⟩
  · have i1 : ¬ (2000 : Int) < (A.size : Int) := by omega
    by_cases h2 : 9000 < B.size
    · have i2 : (9000 : Int) < (B.size : Int) := by omega
      go_wp2_with fail
      go_ret
      exact ⟨rfl, by rw [HG.out]; exact HL2.out⟩
    · have i2 : ¬ (9000 : Int) < (B.size : Int) := by omega
      have l1 : r.meth.length ≤ 100000 := by omega
      have l2 : r.targ.length ≤ 100000 := by omega
      have l3 : r.targ.length ≤ 1000000 := by omega
      have zB2 : B.size ≤ 1000000 := by omega
      have P1 := Lib.hid (fun w hE => print_any (N := G) r w hE l1 l2 b0)
      have P2 := Lib.hid (fun w => rprint_any r w l1 l2)
      have A1 := Lib.hid (fun w => auth_any r.targ B HB.out zB2 w)
      have A2 := Lib.hid (fun w => rauth_any r.targ B HB.out zB2 w)
      have F1 := Lib.hid (fun w => form_any r l3 w)
      have F2 := Lib.hid (fun w => rform_any r l3 w)
      rw [HC.out] at P1 P2 F1 F2
      rw [opt_str] at P1 P2 A1 A2
      clear zA zB h1 h2 l1 l2 l3 b0
      obtain ⟨p, hp⟩ : ∃ p, printS r = p := ⟨_, rfl⟩
      obtain ⟨q, hq⟩ : ∃ q, authS r.targ = q := ⟨_, rfl⟩
      rw [hp] at P1 P2
      rw [hq] at A1 A2
      generalize formS r = F at *
      generalize optS p = P at *
      generalize p.isSome = ok at *
      generalize optS q = X at *
      generalize q.isSome = is at *
      clear hp hq
      have hz : (#[Value.string A, .string B, .int .i64 k] : Array Value).size = 3 := rfl
      have k2 := HK2.out
      go_wp2_with (refine go_ldg (x := .tmp 1) 23 k2 undR rfl infR hz (by rfl) rfl rfl ?_)
      refine (P1.out w2 (HE.out.below HL2.out)).mono ?_
      rintro e w3 ⟨rfl, hb⟩
      have k3 := HK2.out.below hb HK2.out.lt
      have HK3 := Lib.hid k3
      have HL3 := Lib.hid (HL2.out.trans (hb.mono (Nat.le_of_lt HK2.out.lt)))
      clear hb k2 HK2 HL2 P1 c0 c1
      go_wp2_with (refine go_ldg (x := .tmp 1) 23 k3 undR rfl infR hz (by rfl) rfl rfl ?_)
      refine (P2.out w3).mono ?_
      rintro e w4 ⟨rfl, hb⟩
      have k4 := HK3.out.below hb HK3.out.lt
      have HK4 := Lib.hid k4
      have HL4 := Lib.hid (HL3.out.trans (hb.mono (Nat.le_of_lt HK3.out.lt)))
      clear hb k3 HK3 HL3 P2
      have c1 := k4.cell 1
      clear k4
      go_wp2_with fail
      refine (A1.out w4).mono ?_
      rintro e w5 ⟨rfl, hb⟩
      have k5 := HK4.out.below hb HK4.out.lt
      have HK5 := Lib.hid k5
      have HL5 := Lib.hid (HL4.out.trans (hb.mono (Nat.le_of_lt HK4.out.lt)))
      clear c1 hb HK4 HL4 A1
      have c1 := k5.cell 1
      clear k5
      go_wp2_with fail
      refine (A2.out w5).mono ?_
      rintro e w6 ⟨rfl, hb⟩
      have HK6 := Lib.hid (HK5.out.below hb HK5.out.lt)
      have HL6 := Lib.hid (HL5.out.trans (hb.mono (Nat.le_of_lt HK5.out.lt)))
      clear c1 hb HK5 HL5 A2
      have eP : (P.toList == P.toList) = true := by simp
      have eX : (X.toList == X.toList) = true := by simp
      have eO : (ok == ok) = true := by simp
      have eI : (is == is) = true := by simp
      have eF : (F == F) = true := by simp
      have HS6 := Lib.hid (show w6.cell? ⟨G, 0, none⟩ = some (.string A) ∧ w6.cell? ⟨G, 1, none⟩ = some (.string B) ∧ w6.cell? ⟨G, 2, none⟩ = some (.int .i64 k) from ⟨HK6.out.cell 0, HK6.out.cell 1, HK6.out.cell 2⟩)
      go_wp2_with fail
      refine wp_region_held_drew (S := fun w' => w'.cell? ⟨G, 0, none⟩ = some (.string A) ∧ w'.cell? ⟨G, 1, none⟩ = some (.string B) ∧ w'.cell? ⟨G, 2, none⟩ = some (.int .i64 k)) (by kernel_rfl) HS6.out (fun h0 => ?_)
      refine hd_take 0 (some 46) (.bool true) rfl rfl (by kernel_rfl) (by kernel_rfl) (by kernel_rfl) (fun _ _ _ h => h) (Or.inl ⟨by rfl, fun w hw => by go_simp⟩) h0 ?_
      simp only [Act.put, List.setIfInBounds_toArray, List.set_cons_zero, List.set_cons_succ]
      refine hd_take 1 (some 47) (.bool true) rfl rfl (by kernel_rfl) (by kernel_rfl) (by kernel_rfl) (fun _ _ _ h => h) (Or.inl ⟨by rfl, fun w hw => by go_simp⟩) h0 ?_
      simp only [Act.put, List.setIfInBounds_toArray, List.set_cons_zero, List.set_cons_succ]
      refine hd_take 2 (some 48) (.string P) rfl rfl (by kernel_rfl) (by kernel_rfl) (by kernel_rfl) (fun _ _ _ h => h) (Or.inl ⟨by rfl, fun w hw => by go_simp⟩) h0 ?_
      simp only [Act.put, List.setIfInBounds_toArray, List.set_cons_zero, List.set_cons_succ]
      refine hd_take 3 (some 49) (.string P) rfl rfl (by kernel_rfl) (by kernel_rfl) (by kernel_rfl) (fun _ _ _ h => h) (Or.inl ⟨by rfl, fun w hw => by go_simp⟩) h0 ?_
      simp only [Act.put, List.setIfInBounds_toArray, List.set_cons_zero, List.set_cons_succ]
      refine hd_take 4 (some 50) (.bool true) rfl rfl (by kernel_rfl) (by kernel_rfl) (by kernel_rfl) (fun _ _ _ h => h) (Or.inl ⟨by rfl, fun w hw => by go_simp⟩) h0 ?_
      simp only [Act.put, List.setIfInBounds_toArray, List.set_cons_zero, List.set_cons_succ]
      refine hd_take 5 (some 51) (.bool true) rfl rfl (by kernel_rfl) (by kernel_rfl) (by kernel_rfl) (fun _ _ _ h => h) (Or.inl ⟨by rfl, fun w hw => by go_simp⟩) h0 ?_
      simp only [Act.put, List.setIfInBounds_toArray, List.set_cons_zero, List.set_cons_succ]
      refine hd_take 6 (some 52) (.bool true) rfl rfl (by kernel_rfl) (by kernel_rfl) (by kernel_rfl) (fun _ _ _ h => h) (Or.inl ⟨by rfl, fun w hw => by go_simp⟩) h0 ?_
      simp only [Act.put, List.setIfInBounds_toArray, List.set_cons_zero, List.set_cons_succ]
      refine hd_take 7 (some 53) (.bool ok) rfl rfl (by kernel_rfl) (by kernel_rfl) (by kernel_rfl) (fun _ _ _ h => h) (Or.inl ⟨by rfl, fun w hw => by go_simp⟩) h0 ?_
      simp only [Act.put, List.setIfInBounds_toArray, List.set_cons_zero, List.set_cons_succ]
      refine hd_take 8 (some 54) (.bool ok) rfl rfl (by kernel_rfl) (by kernel_rfl) (by kernel_rfl) (fun _ _ _ h => h) (Or.inl ⟨by rfl, fun w hw => by go_simp⟩) h0 ?_
      simp only [Act.put, List.setIfInBounds_toArray, List.set_cons_zero, List.set_cons_succ]
      refine hd_take 9 (some 55) (.bool true) rfl rfl (by kernel_rfl) (by kernel_rfl) (by kernel_rfl) (fun _ _ _ h => h) (Or.inl ⟨by rfl, fun w hw => by go_simp⟩) h0 ?_
      simp only [Act.put, List.setIfInBounds_toArray, List.set_cons_zero, List.set_cons_succ]
      refine hd_take 10 (some 56) (.bool true) rfl rfl (by kernel_rfl) (by kernel_rfl) (by kernel_rfl) (fun _ _ _ h => h) (Or.inl ⟨by rfl, fun w hw => by go_simp⟩) h0 ?_
      simp only [Act.put, List.setIfInBounds_toArray, List.set_cons_zero, List.set_cons_succ]
      refine hd_take 11 (some 57) (.bool true) rfl rfl (by kernel_rfl) (by kernel_rfl) (by kernel_rfl) (fun _ _ _ h => h) (Or.inl ⟨by rfl, fun w hw => by go_simp⟩) h0 ?_
      simp only [Act.put, List.setIfInBounds_toArray, List.set_cons_zero, List.set_cons_succ]
      refine hd_take 12 (some 58) (.string X) rfl rfl (by kernel_rfl) (by kernel_rfl) (by kernel_rfl) (fun _ _ _ h => h) (Or.inl ⟨by rfl, fun w hw => by go_simp⟩) h0 ?_
      simp only [Act.put, List.setIfInBounds_toArray, List.set_cons_zero, List.set_cons_succ]
      refine hd_take 13 (some 59) (.string X) rfl rfl (by kernel_rfl) (by kernel_rfl) (by kernel_rfl) (fun _ _ _ h => h) (Or.inl ⟨by rfl, fun w hw => by go_simp⟩) h0 ?_
      simp only [Act.put, List.setIfInBounds_toArray, List.set_cons_zero, List.set_cons_succ]
      refine hd_take 14 (some 60) (.bool true) rfl rfl (by kernel_rfl) (by kernel_rfl) (by kernel_rfl) (fun _ _ _ h => h) (Or.inl ⟨by rfl, fun w hw => by go_simp⟩) h0 ?_
      simp only [Act.put, List.setIfInBounds_toArray, List.set_cons_zero, List.set_cons_succ]
      refine hd_take 15 (some 61) (.bool true) rfl rfl (by kernel_rfl) (by kernel_rfl) (by kernel_rfl) (fun _ _ _ h => h) (Or.inl ⟨by rfl, fun w hw => by go_simp⟩) h0 ?_
      simp only [Act.put, List.setIfInBounds_toArray, List.set_cons_zero, List.set_cons_succ]
      refine hd_take 16 (some 62) (.bool true) rfl rfl (by kernel_rfl) (by kernel_rfl) (by kernel_rfl) (fun _ _ _ h => h) (Or.inl ⟨by rfl, fun w hw => by go_simp⟩) h0 ?_
      simp only [Act.put, List.setIfInBounds_toArray, List.set_cons_zero, List.set_cons_succ]
      refine hd_take 17 (some 63) (.bool is) rfl rfl (by kernel_rfl) (by kernel_rfl) (by kernel_rfl) (fun _ _ _ h => h) (Or.inl ⟨by rfl, fun w hw => by go_simp⟩) h0 ?_
      simp only [Act.put, List.setIfInBounds_toArray, List.set_cons_zero, List.set_cons_succ]
      refine hd_take 18 (some 64) (.bool is) rfl rfl (by kernel_rfl) (by kernel_rfl) (by kernel_rfl) (fun _ _ _ h => h) (Or.inl ⟨by rfl, fun w hw => by go_simp⟩) h0 ?_
      simp only [Act.put, List.setIfInBounds_toArray, List.set_cons_zero, List.set_cons_succ]
      refine hd_take 19 (some 65) (.bool true) rfl rfl (by kernel_rfl) (by kernel_rfl) (by kernel_rfl) (fun _ _ _ h => h) (Or.inl ⟨by rfl, fun w hw => by go_simp⟩) h0 ?_
      simp only [Act.put, List.setIfInBounds_toArray, List.set_cons_zero, List.set_cons_succ]
      refine hd_take 20 (some 66) (.bool true) rfl rfl (by kernel_rfl) (by kernel_rfl) (by kernel_rfl) (fun _ _ _ h => h) (Or.inl ⟨by rfl, fun w hw => by go_simp⟩) h0 ?_
      simp only [Act.put, List.setIfInBounds_toArray, List.set_cons_zero, List.set_cons_succ]
      refine hd_take 21 (some 67) (.bool true) rfl rfl (by kernel_rfl) (by kernel_rfl) (by kernel_rfl) (fun _ _ _ h => h) (Or.inl ⟨by rfl, fun w hw => by go_simp⟩) h0 ?_
      simp only [Act.put, List.setIfInBounds_toArray, List.set_cons_zero, List.set_cons_succ]
      refine hd_take 22 (some 68) (.agg #[.string A, .string B, .int .i64 k]) rfl rfl (by kernel_rfl) (by kernel_rfl) (by kernel_rfl) (fun _ _ _ h => h) (Or.inl ⟨by rfl, fun w hw => by obtain ⟨y0, y1, y2⟩ := hw; go_simp⟩) h0 ?_
      simp only [Act.put, List.setIfInBounds_toArray, List.set_cons_zero, List.set_cons_succ]
      refine hd_take 24 (some 70) (.agg #[.string A, .string B, .int .i64 k]) rfl rfl (by kernel_rfl) (by kernel_rfl) (by kernel_rfl) (fun _ _ _ h => h) (Or.inl ⟨by rfl, fun w hw => by obtain ⟨y0, y1, y2⟩ := hw; go_simp⟩) h0 ?_
      simp only [Act.put, List.setIfInBounds_toArray, List.set_cons_zero, List.set_cons_succ]
      refine wpAnyH_ready (rs := [23]) (by kernel_rfl) (by simp) (AllReadyH.cons rfl (fun K hK => ?_) AllReadyH.nil)
      go_simp
      go_wp2_with (go_at_call 12; refine (F1.out _).mono ?_; rintro e w7 ⟨rfl, hb7⟩; have k7 : Blk w7 G _ _ := Blk.below (w := w6.drew) HK6.out hb7 HK6.out.lt; have HK7 := Lib.hid k7; have HL7 := Lib.hid (HL6.out.drew.trans (hb7.mono (Nat.le_of_lt HK6.out.lt))); clear k7 hb7)
      refine hK.out _ _ ⟨HK7.out.cell 0, HK7.out.cell 1, HK7.out.cell 2⟩ (fun h2 => ?_)
      clear hK K
      refine wpAnyH_ready (rs := [25]) (by kernel_rfl) (by simp) (AllReadyH.cons rfl (fun K hK => ?_) AllReadyH.nil)
      go_simp
      go_wp2_with (go_at_call 13; refine (F2.out _).mono ?_; rintro e w8 ⟨rfl, hb8⟩; have k8 : Blk w8 G _ _ := HK7.out.below hb8 HK7.out.lt; have HK8 := Lib.hid k8; have HL8 := Lib.hid (HL7.out.trans (hb8.mono (Nat.le_of_lt HK7.out.lt))); clear k8 hb8)
      refine hK.out _ _ ⟨HK8.out.cell 0, HK8.out.cell 1, HK8.out.cell 2⟩ (fun h3 => ?_)
      clear hK K
      refine hd_take 26 (some 72) (.bool true) rfl rfl (by kernel_rfl) (by kernel_rfl) (by kernel_rfl) (fun _ _ _ h => h) (Or.inl ⟨by rfl, fun w hw => by go_simp⟩) h3 ?_
      simp only [Act.put, List.setIfInBounds_toArray, List.set_cons_zero, List.set_cons_succ]
      refine hd_take 27 (some 73) (.bool true) rfl rfl (by kernel_rfl) (by kernel_rfl) (by kernel_rfl) (fun _ _ _ h => h) (Or.inl ⟨by rfl, fun w hw => by go_simp⟩) h3 ?_
      simp only [Act.put, List.setIfInBounds_toArray, List.set_cons_zero, List.set_cons_succ]
      refine hd_take 28 (some 2) (.bool true) rfl rfl (by kernel_rfl) (by kernel_rfl) (by kernel_rfl) (fun _ _ _ h => h) (Or.inl ⟨by rfl, fun w hw => by go_simp⟩) h3 ?_
      simp only [Act.put, List.setIfInBounds_toArray, List.set_cons_zero, List.set_cons_succ]
      refine wpAnyH_done (by kernel_rfl) ?_ _
      go_wp2_with fail
      go_ret
      exact ⟨rfl, by rw [HG.out]; exact HL8.out⟩

set_option maxRecDepth 100000 in
set_option linter.unusedVariables false in
theorem lifted (os : Os) (started : os.Started) (H : Type) (enc : TypeId × Value → H) :
    ReturnsInHanded {} Tryd.checked os 3 .any (fun w args => (Rows.reqlineTellsSpec.pre enc Tryd.prog Tryd.f3 [] false w args ∧ laidMetH Tryd.prog laid3 w) ∧ sizedMet enc Tryd.prog Tryd.f3 (OpenSpec.ofChange Rows.reqlineTellsSpec) false w args)
      (Rows.reqlineTellsSpec.post enc Tryd.prog Tryd.f3 false true false false) := by
  refine returns_laid (C := Tryd.checked) (X := fun w _ => laidMetH Tryd.prog laid3 w) (fun _ _ _ hh h => h.of_heap hh) own started (by kernel_rfl) Tryd.func3
    (ChangeSpec.witness_shaped (enc := enc) (C := Tryd.checked) (os := os) (X := fun w _ => laidMetH Tryd.prog laid3 w) false (World.doorLaid Tryd.prog 24 os) #[.agg #[.string .empty, .string .empty, .int .i64 0]] 8 rfl (World.shaped_of_RefB (by kernel_rfl) (by kernel_rfl)) (by kernel_rfl) (by kernel_rfl) (by kernel_rfl) (door_met os _)) ?_
  intro W base args ds gs before hval0 hW hL hshp
  have hE := env_of hL hshp
  have hval : ∀ (j : Nat) t v, Tryd.f3.params[j]? = some t → args[j]? = some v → Value.okWide Tryd.prog W .any base t v := hval0
  have hW' := hW
  obtain ⟨p, q, hA0, hV, rfl, hfz, hnd⟩ := hW
  have hA : DataW.TrodAll enc Tryd.prog W 0 (fun _ => true) true Tryd.f3.params.toList args.toList ds p := hA0
  rw [Tryd.params3] at hA hval
  obtain ⟨v0, vs0, d0, ds0, p0, q0, hargs, rfl, rfl, h0, r0⟩ := trodAll_cons hA
  obtain ⟨rfl, rfl, rfl⟩ := trodAll_nil r0
  obtain rfl : args = #[v0] := by cases args; simp_all
  obtain ⟨rfl, rfl⟩ := trodVars_none hV
  have k0 := h0
  have lt0 : ∀ x ∈ p0, x.block < W.heap.size := by obtain ⟨m, hm⟩ := k0; exact DataW.trod_lt m _ _ _ hm
  obtain ⟨a0, rfl, m0, t0, b0⟩ := open_request (hval 0 23 v0 rfl rfl) h0
  clear hA0 hval0
  refine (walk W a0 m0 t0 b0 hE).mono fun e W' ⟨he, bel⟩ => ?_
  subst he
  exact ⟨_, rfl, _, _, _, [], _, [], hW', trodAll_mk1 (shut_bool Tryd.underlying4 _), (trodAll_cons_mk (Below.trod Lift.laidOut (by kernel_rfl) (of_decide_eq_true (by kernel_rfl)) k0 bel lt0) trodAll_mk0), rfl, bel.frame _, fun h => by cases h⟩

theorem over : Rows.reqlineTellsRow.holds Tryd.pinned (OpenSpec.ofChange Rows.reqlineTellsSpec) :=
  OpenClaim.holds_of_wide 3 Tryd.f3 rfl rfl rfl rfl rfl rfl rfl ⟨rfl, rfl, rfl, rfl, rfl⟩ rfl rfl rfl rfl rfl (by kernel_rfl) Tryd.func3 (by kernel_rfl)
    (of_decide_eq_true (by kernel_rfl)) (by unfold Func.isWrapper; first | (rw [if_pos (by decide +kernel)]; kernel_rfl) | (rw [if_neg (by decide +kernel)]; exact ⟨rfl, rfl⟩))
    (fun os started H enc _ => lifted os started H enc)

theorem proved : Rows.ReqlineTellsCardSaid :=
  Claim7.holds_tied_plain_at .later [] [.data, .data, .data] true (true, "6cf545e2bb98b62287d2de85b61d76cc33adb4d7a6870d89833e676b30f47edb") false
    over (fun _ h => by cases h) (by kernel_rfl) (fun _ h => by cases h) reqlineTells_row_tie rfl ⟨rfl, rfl⟩ (by kernel_rfl) rfl
    (fun f fn hf hfn => by
      obtain rfl : f = 3 := Option.some.inj ((show Tryd.prog.funcNamed "hagioscope/hagioscopelaw11.ReqlineTells" = some 3 by kernel_rfl).symm.trans hf) |>.symm
      obtain rfl : fn = Tryd.f3 := (Option.some.inj (Tryd.func3.symm.trans hfn)).symm
      exact ⟨by kernel_rfl, fun j t ht => by
        rw [Tryd.params3] at ht
        have hm : t ∈ [23] := by simpa using Array.mem_of_getElem? ht
        have hall : ([23].all fun u => !Tryd.prog.wantsStandIn u) = true := by kernel_rfl
        exact (show Tryd.prog.wantsStandIn t = false by simpa using List.all_eq_true.1 hall t hm)⟩)
    (by kernel_rfl)
#print axioms proved
end Go.Proofs.YtnkcloebnlolaaaDoor.reqlineTells
