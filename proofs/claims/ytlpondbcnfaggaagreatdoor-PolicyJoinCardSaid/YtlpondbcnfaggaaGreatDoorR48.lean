/-
  PolicyJoin's walk over the bundle of package policy's contracts. No condition beyond the statement's own.
-/
import Derived.Test.YtlpondbcnfaggaaGreatDoorR15
namespace Go.Proofs.YtlpondbcnfaggaaGreatDoor.Po
open Go.RowKit Go.Proofs.YtlpondbcnfaggaaGreatDoor.Wd Go.Proofs.YtlpondbcnfaggaaGreatDoor.Asc Go.Proofs.YtlpondbcnfaggaaGreatDoor.Tx Go.Proofs.YtlpondbcnfaggaaGreatDoor.St Go.Proofs.YtlpondbcnfaggaaGreatDoor.Tr Go.Proofs.YtlpondbcnfaggaaGreatDoor.Te
theorem ready_op {P : Program} {ops : Array Oper} {Q : Exit → Act → World → Prop} {md : Region.Mode} {S : World → Prop} {fuel : Nat} {listed : Array Bool} {a : Act} {w : World} {i : Nat} {o : Oper} {rs : List Nat} (ho : ops[i]? = some o) (hw : Region.wanted o (yielded ops a.tmps) = true)
    (h : ∀ K' : Act → World → Prop, Shut (∀ a w, S w → (S w → wpAnyH P md ops Q S fuel (listed.setIfInBounds i true) a w) → K' a w) → o.wp P a w K' Q) (hs : AllReadyH P md ops Q S fuel listed a w rs) : AllReadyH P md ops Q S fuel listed a w (i :: rs) :=
  AllReadyH.cons ho (fun K hK => by rw [if_pos hw]; exact h K hK) hs
theorem wp_norm' {P : Program} {c : Code} {Q : Exit → Act → World → Prop} {a : Act} {w : World} (h : c.wp P (fun e a w => e = .normal ∧ Q e a w) a w) : c.wp P Q a w := Code.wp_mono (fun _ _ _ h => h.2) h
theorem go_opg {ops : Array Oper} {rest : List Oper} {o : Oper} {a : Act} {w : World} {Q : Exit → Act → World → Prop} (hw : Region.wanted o (yielded ops a.tmps) = true) (h : o.wp Tryz.prog a w (fun a w => wpList Tryz.prog ops Q rest a w) Q) : wpList Tryz.prog ops Q (o :: rest) a w := by
  show if Region.wanted o (yielded ops a.tmps) = true then _ else _
  rw [if_pos hw]
  exact .inl h
set_option linter.unusedSimpArgs false in
set_option maxRecDepth 100000 in
set_option maxHeartbeats 32000000 in
theorem join_walk (C : PoC) (hSm : SmallP) (W : World) (s r : ByteArray) (hE : Ad.Env W.heap.size W) (hs : s.size ≤ 9223372036854775807) (hm : r.size ≤ 9223372036854775807) :
    Calls Tryz.prog 12 #[.string s, .string r] W fun e w' => e = .returned (.bool true) ∧ Below W.heap.size W w' := by
  have HSm := Lib.hid (fun w' (hb : Below W.heap.size W w') => hSm w' (hE.on hb))
  have HE := Lib.hid hE
  obtain ⟨n, hn⟩ : ∃ n, s.size = n := ⟨_, rfl⟩
  obtain ⟨m, hm'⟩ : ∃ m, r.size = m := ⟨_, rfl⟩
  rw [hn] at hs
  rw [hm'] at hm
  clear hSm hE
  go_enter Tryz.func12, Tryz.ntmps12
  go_wp2_with fail
  refine (HSm.out _ (Below.refl _ _)).mono ?_
  rintro e w1 ⟨rfl, hb1⟩
  have HB1 := Lib.hid hb1
  clear HSm hb1
  by_cases hl : 700 < n
  · have hl2 : (700 : Int) < (n : Int) := by omega
    go_wp2_with fail
    go_ret
    exact ⟨rfl, HB1.out⟩
  have hl2 : ¬ (700 : Int) < (n : Int) := by omega
  by_cases hk : 700 < m
  · have hk2 : (700 : Int) < (m : Int) := by omega
    go_wp2_with fail
    go_ret
    exact ⟨rfl, HB1.out⟩
  have hk2 : ¬ (700 : Int) < (m : Int) := by omega
  obtain ⟨⟨p, k1, e1⟩, h1⟩ : ∃ x, parseP (bs s) = x := ⟨_, rfl⟩
  obtain ⟨⟨q, k2, e2⟩, h2⟩ : ∃ x, parseP (bs r) = x := ⟨_, rfl⟩
  obtain ⟨⟨x, k3, e3⟩, h3⟩ : ∃ x, parseP (bs s ++ 10 :: bs r) = x := ⟨_, rfl⟩
  have hj := fun hg => join_told (s := bs s) (t := bs r) hg
  rw [h1, h2, h3] at hj
  have HJ := Lib.hid (show e3 = 0 → e1 = 0 ∧ (e2 = 0 → x.ru = p.ru ++ q.ru ∧ x.pn = p.pn ++ q.pn) from hj)
  have HM1 := Lib.hid (show e1 = 0 → p.ru.length ≤ 200 ∧ p.pn.length ≤ 200 from fun h => by
    have := right_most (parse_ok (s := bs s) (by rw [h1]; exact h)).2
    rwa [h1] at this)
  have HM2 := Lib.hid (show e2 = 0 → q.ru.length ≤ 200 ∧ q.pn.length ≤ 200 from fun h => by
    have := right_most (parse_ok (s := bs r) (by rw [h2]; exact h)).2
    rwa [h2] at this)
  have HC1 := Lib.hid (fun w' hb => C.parse_ (B := W.heap.size) (w := w') (HE.out.on hb) s (by omega) p k1 e1 h1)
  have HC2 := Lib.hid (fun w' hb => C.parse_ (B := W.heap.size) (w := w') (HE.out.on hb) r (by omega) q k2 e2 h2)
  have HC3 := Lib.hid (fun w' hb => C.parse_ (B := W.heap.size) (w := w') (HE.out.on hb) (s ++ ⟨#[10]⟩ ++ r) (by rw [ba_size, ba_size, hn, hm']; show n + 1 + m ≤ 1000000; omega) x k3 e3 (by
    rw [bs_add, bs_add, ← h3]
    show parseP (bs s ++ [10] ++ bs r) = _
    rw [List.append_assoc]
    rfl))
  clear h1 h2 h3 hj
  go_wp2_with fail
  refine (HC1.out _ HB1.out).mono ?_
  rintro e wa1 ⟨A1, c1, B1, d1, ps1, rfl, ho1, ho2, hpn, hba⟩
  obtain ⟨wb1, hwb, hvb, hab, hlb⟩ := po_put (al := p.al) (w0 := W) ho1 ho2 hpn (HB1.out.trans (hba.mono HB1.out.size)) #[.bool false, .slice none 0 0, .slice none 0 0]
  have HV1 := Lib.hid hvb
  have HL1 := Lib.hid hlb
  have HPn1 := Lib.hid hpn
  have HWb := Lib.hid hwb
  clear ho1 ho2 hpn hba hwb hvb hab hlb
  go_upto_region 5 with (refine go_st 53 (Blk.new _ _ _) infPo rfl rfl (plV_one p.al _ _ _ _ _ _) rfl rfl rfl rfl ?_)
  rw [HWb.out]
  obtain ⟨X1, hX⟩ : ∃ X, wa1.heap.size = X := ⟨_, rfl⟩
  rw [hX] at HV1 ⊢
  clear HWb hX
  clear HC1 hl hl2 hk hk2
  go_wp2_with fail
  refine (HC2.out _ HL1.out).mono ?_
  rintro e wa2 ⟨A2, c2, B2, d2, ps2, rfl, ho1, ho2, hpn, hba⟩
  obtain ⟨wb2, hwb, hvb, hab, hlb⟩ := po_put (al := q.al) (w0 := W) ho1 ho2 hpn (HL1.out.trans (hba.mono HL1.out.size)) #[.bool false, .slice none 0 0, .slice none 0 0]
  have HV1 := Lib.hid ((HV1.out.on hba).on hab)
  have HV2 := Lib.hid hvb
  have HL2 := Lib.hid hlb
  have HPn2 := Lib.hid hpn
  have HWb := Lib.hid hwb
  clear ho1 ho2 hpn hba hwb hvb hab hlb
  go_upto_region 6 with (refine go_st 53 (Blk.new _ _ _) infPo rfl rfl (plV_one q.al _ _ _ _ _ _) rfl rfl rfl rfl ?_)
  rw [HWb.out]
  obtain ⟨X2, hX⟩ : ∃ X, wa2.heap.size = X := ⟨_, rfl⟩
  rw [hX] at HV2 ⊢
  clear HWb hX
  clear HC2
  go_wp2_with fail
  refine (HC3.out _ HL2.out).mono ?_
  rintro e wa3 ⟨A3, c3, B3, d3, ps3, rfl, ho1, ho2, hpn, hba⟩
  obtain ⟨wb3, hwb, hvb, hab, hlb⟩ := po_put (al := x.al) (w0 := W) ho1 ho2 hpn (HL2.out.trans (hba.mono HL2.out.size)) #[.bool false, .slice none 0 0, .slice none 0 0]
  have HV1 := Lib.hid ((HV1.out.on hba).on hab)
  have HV2 := Lib.hid ((HV2.out.on hba).on hab)
  have HV3 := Lib.hid hvb
  have HL3 := Lib.hid hlb
  have HPn3 := Lib.hid hpn
  have HWb := Lib.hid hwb
  clear ho1 ho2 hpn hba hwb hvb hab hlb
  go_upto_region 7 with (refine go_st 53 (Blk.new _ _ _) infPo rfl rfl (plV_one x.al _ _ _ _ _ _) rfl rfl rfl rfl ?_)
  rw [HWb.out]
  obtain ⟨X3, hX⟩ : ∃ X, wa3.heap.size = X := ⟨_, rfl⟩
  rw [hX] at HV3 ⊢
  clear HWb hX
  clear HC3
  by_cases z3 : e3 = 0
  case neg =>
    have q3 : (e3 != 0) = true := by rw [bne_iff_ne]; exact z3
    by_cases z1 : e1 = 0
    · subst z1
      by_cases z2 : e2 = 0
      · subst z2
        go_wp2_with fail
        go_ret
        exact ⟨rfl, HL3.out⟩
      · have q2 : (e2 != 0) = true := by rw [bne_iff_ne]; exact z2
        go_wp2_with fail
        go_ret
        exact ⟨rfl, HL3.out⟩
    · have q1 : (e1 != 0) = true := by rw [bne_iff_ne]; exact z1
      go_wp2_with fail
      go_ret
      exact ⟨rfl, HL3.out⟩
  subst z3
  obtain ⟨rfl, hj2⟩ := HJ.out rfl
  by_cases z2 : e2 = 0
  case neg =>
    have q2 : (e2 != 0) = true := by rw [bne_iff_ne]; exact z2
    clear hj2
    go_wp2_with fail
    go_ret
    exact ⟨rfl, HL3.out⟩
  subst z2
  have HR := Lib.hid (hj2 rfl)
  have HQ1 := Lib.hid (HM1.out rfl)
  have HQ2 := Lib.hid (HM2.out rfl)
  clear hj2
  have v11 : wb3.cell? ⟨X1, 1, none⟩ = some (.slice A1 p.ru.length c1) := HV1.out.blk.cell 1
  have v12 : wb3.cell? ⟨X1, 2, none⟩ = some (.slice B1 p.pn.length d1) := HV1.out.blk.cell 2
  have v21 : wb3.cell? ⟨X2, 1, none⟩ = some (.slice A2 q.ru.length c2) := HV2.out.blk.cell 1
  have v22 : wb3.cell? ⟨X2, 2, none⟩ = some (.slice B2 q.pn.length d2) := HV2.out.blk.cell 2
  have v31 : wb3.cell? ⟨X3, 1, none⟩ = some (.slice A3 x.ru.length c3) := HV3.out.blk.cell 1
  have v32 : wb3.cell? ⟨X3, 2, none⟩ = some (.slice B3 x.pn.length d3) := HV3.out.blk.cell 2
  clear v11 v12 v21 v22 v31 v32
  go_upto_region 9 with fail
  have hdr : Below wb3.heap.size wb3 wb3.drew := (Below.refl _ _).drew
  have HD1 := Lib.hid (HV1.out.on hdr)
  have HD2 := Lib.hid (HV2.out.on hdr)
  have HD3 := Lib.hid (HV3.out.on hdr)
  have HLd := Lib.hid (show Below W.heap.size W wb3.drew from HL3.out.drew)
  clear hdr HV1 HV2 HV3 HL3
  have HSS := Lib.hid (fun (w' : World) (hb : Below wb3.drew.heap.size wb3.drew w') => show (w'.cell? ⟨X1, 1, none⟩ = some (.slice A1 p.ru.length c1) ∧ w'.cell? ⟨X1, 2, none⟩ = some (.slice B1 p.pn.length d1)) ∧ (w'.cell? ⟨X2, 1, none⟩ = some (.slice A2 q.ru.length c2) ∧ w'.cell? ⟨X2, 2, none⟩ = some (.slice B2 q.pn.length d2)) ∧ (w'.cell? ⟨X3, 1, none⟩ = some (.slice A3 x.ru.length c3) ∧ w'.cell? ⟨X3, 2, none⟩ = some (.slice B3 x.pn.length d3)) from
    ⟨⟨(HD1.out.on hb).blk.cell 1, (HD1.out.on hb).blk.cell 2⟩, ⟨(HD2.out.on hb).blk.cell 1, (HD2.out.on hb).blk.cell 2⟩, ⟨(HD3.out.on hb).blk.cell 1, (HD3.out.on hb).blk.cell 2⟩⟩)
  refine wp_norm' ?_
  refine wp_region_held_drew (S := fun w' => (w'.cell? ⟨X1, 1, none⟩ = some (.slice A1 p.ru.length c1) ∧ w'.cell? ⟨X1, 2, none⟩ = some (.slice B1 p.pn.length d1)) ∧ (w'.cell? ⟨X2, 1, none⟩ = some (.slice A2 q.ru.length c2) ∧ w'.cell? ⟨X2, 2, none⟩ = some (.slice B2 q.pn.length d2)) ∧ (w'.cell? ⟨X3, 1, none⟩ = some (.slice A3 x.ru.length c3) ∧ w'.cell? ⟨X3, 2, none⟩ = some (.slice B3 x.pn.length d3))) (by kernel_rfl) (HSS.out _ (Below.refl _ _)) (fun h0 => ?_)
  generalize wb3.drew = wd at *
  refine hd_take 0 (some 65) (.bool true) rfl rfl (by kernel_rfl) (by kernel_rfl) (by kernel_rfl) (fun _ _ _ h => nomatch h.1) (Or.inl ⟨by rfl, fun w hw => by go_simp⟩) h0 ?_
  simp only [Act.put, List.setIfInBounds_toArray, List.set_cons_zero, List.set_cons_succ]
  refine hd_take 1 (some 66) (.bool true) rfl rfl (by kernel_rfl) (by kernel_rfl) (by kernel_rfl) (fun _ _ _ h => nomatch h.1) (Or.inl ⟨by rfl, fun w hw => by go_simp⟩) h0 ?_
  simp only [Act.put, List.setIfInBounds_toArray, List.set_cons_zero, List.set_cons_succ]
  refine hd_take 2 (some 67) (.pointer (some ⟨X3, 1, none⟩)) rfl rfl (by kernel_rfl) (by kernel_rfl) (by kernel_rfl) (fun _ _ _ h => nomatch h.1) (Or.inl ⟨by rfl, fun w hw => by go_simp⟩) h0 ?_
  simp only [Act.put, List.setIfInBounds_toArray, List.set_cons_zero, List.set_cons_succ]
  refine hd_take 3 (some 68) (.slice A3 x.ru.length c3) rfl rfl (by kernel_rfl) (by kernel_rfl) (by kernel_rfl) (fun _ _ _ h => nomatch h.1) (Or.inl ⟨by rfl, fun w hw => by have h9 := hw.2.2.1; go_simp⟩) h0 ?_
  simp only [Act.put, List.setIfInBounds_toArray, List.set_cons_zero, List.set_cons_succ]
  refine hd_take 5 (some 70) (.pointer (some ⟨X1, 1, none⟩)) rfl rfl (by kernel_rfl) (by kernel_rfl) (by kernel_rfl) (fun _ _ _ h => nomatch h.1) (Or.inl ⟨by rfl, fun w hw => by go_simp⟩) h0 ?_
  simp only [Act.put, List.setIfInBounds_toArray, List.set_cons_zero, List.set_cons_succ]
  refine hd_take 6 (some 71) (.slice A1 p.ru.length c1) rfl rfl (by kernel_rfl) (by kernel_rfl) (by kernel_rfl) (fun _ _ _ h => nomatch h.1) (Or.inl ⟨by rfl, fun w hw => by have h9 := hw.1.1; go_simp⟩) h0 ?_
  simp only [Act.put, List.setIfInBounds_toArray, List.set_cons_zero, List.set_cons_succ]
  refine hd_take 8 (some 73) (.pointer (some ⟨X2, 1, none⟩)) rfl rfl (by kernel_rfl) (by kernel_rfl) (by kernel_rfl) (fun _ _ _ h => nomatch h.1) (Or.inl ⟨by rfl, fun w hw => by go_simp⟩) h0 ?_
  simp only [Act.put, List.setIfInBounds_toArray, List.set_cons_zero, List.set_cons_succ]
  refine hd_take 9 (some 74) (.slice A2 q.ru.length c2) rfl rfl (by kernel_rfl) (by kernel_rfl) (by kernel_rfl) (fun _ _ _ h => nomatch h.1) (Or.inl ⟨by rfl, fun w hw => by have h9 := hw.2.1.1; go_simp⟩) h0 ?_
  simp only [Act.put, List.setIfInBounds_toArray, List.set_cons_zero, List.set_cons_succ]
  refine wpAnyH_ready (rs := [4]) (by kernel_rfl) (by simp) (AllReadyH.cons rfl (fun K hK => ?_) AllReadyH.nil)
  go_simp
  have HM1 := Lib.hid (MidU.start (Below.refl wd.heap.size wd))
  refine hK.out _ (wd.alloc (.cells #[] 23)) (HSS.out _ HM1.out.bel) (fun h1 => ?_)
  clear hK K h0
  generalize wd.alloc (.cells #[] 23) = we at *
  refine wpAnyH_ready (rs := [7]) (by kernel_rfl) (by simp) (ready_op rfl (by rfl) (fun K hK => ?_) AllReadyH.nil)
  refine wp_appU (.tmp 69) (.tmp 71) rfl wd.heap.size (.slice (some ⟨wd.heap.size, 0, none⟩) 0 0) [] (by go_simp) HM1.out.own A1 p.ru.length c1 p.ru (by go_simp) rfl (HD1.out.on HM1.out.bel).su (by have := HQ1.out.1; simp only [List.length_nil]; omega) HM1.out.bel.size ?_
  intro v1 wf ho hg
  rw [List.nil_append] at ho
  have HM2 := Lib.hid (HM1.out.app ho.out hg.out)
  refine hK.out _ _ (HSS.out _ HM2.out.bel) (fun h2 => ?_)
  clear hK K h1 ho hg
  refine wpAnyH_ready (rs := [10]) (by kernel_rfl) (by simp) (ready_op rfl (by rfl) (fun K hK => ?_) AllReadyH.nil)
  refine wp_appU (.tmp 72) (.tmp 74) rfl wd.heap.size v1 p.ru (by go_simp) HM2.out.own A2 q.ru.length c2 q.ru (by go_simp) rfl (HD2.out.on HM2.out.bel).su (by have := HQ1.out.1; have := HQ2.out.1; omega) HM2.out.bel.size ?_
  intro v2 wg ho hg
  have hM3 := HM2.out.app ho.out hg.out
  obtain ⟨Av, cv, hv, _, hsv⟩ := ho.out.src
  obtain ⟨nz, hnz⟩ : ∃ nz, (p.ru ++ q.ru).length = nz := ⟨_, rfl⟩
  rw [hnz] at hv
  subst hv
  have HNz := Lib.hid hnz
  clear hnz
  have HM3 := Lib.hid hM3
  have HSv := Lib.hid hsv
  refine hK.out _ _ (HSS.out _ HM3.out.bel) (fun h3 => ?_)
  clear hK K h2 ho hg hM3 hsv
  have HSa := Lib.hid (rsame_any x.ru (p.ru ++ q.ru) A3 Av x.ru.length nz c3 cv wg (HD3.out.on HM3.out.bel).su rfl HSv.out HNz.out (by rw [HR.out.1, List.length_append]; have := HQ1.out.1; have := HQ2.out.1; omega))
  refine wpAnyH_ready (rs := [11]) (by kernel_rfl) (by simp) (AllReadyH.cons rfl (fun K hK => ?_) AllReadyH.nil)
  go_simp
  refine HSa.out.mono ?_
  rintro e wh ⟨rfl, hbh⟩
  rw [decide_eq_true HR.out.1]
  have HBh := Lib.hid (HM3.out.bel.trans (hbh.mono HM3.out.bel.size))
  refine hK.out _ _ (HSS.out _ HBh.out) (fun h4 => ?_)
  clear hK K h3 hbh
  have hz : ((x.pn.length : Nat) : Int) = ((p.pn.length : Nat) : Int) + ((q.pn.length : Nat) : Int) := by rw [HR.out.2, List.length_append]; omega
  have hp9 : p.pn.length ≤ 200 := HQ1.out.2
  have hq9 : q.pn.length ≤ 200 := HQ2.out.2
  have HZ := Lib.hid hz
  clear hz
  refine hd_take 12 (some 77) (.bool true) rfl rfl (by kernel_rfl) (by kernel_rfl) (by kernel_rfl) (fun _ _ _ h => nomatch h.1) (Or.inl ⟨by rfl, fun w hw => by go_simp⟩) h4 ?_
  simp only [Act.put, List.setIfInBounds_toArray, List.set_cons_zero, List.set_cons_succ]
  refine hd_take 13 (some 78) (.bool true) rfl rfl (by kernel_rfl) (by kernel_rfl) (by kernel_rfl) (fun _ _ _ h => nomatch h.1) (Or.inl ⟨by rfl, fun w hw => by go_simp⟩) h4 ?_
  simp only [Act.put, List.setIfInBounds_toArray, List.set_cons_zero, List.set_cons_succ]
  refine hd_take 14 (some 79) (.pointer (some ⟨X3, 2, none⟩)) rfl rfl (by kernel_rfl) (by kernel_rfl) (by kernel_rfl) (fun _ _ _ h => nomatch h.1) (Or.inl ⟨by rfl, fun w hw => by go_simp⟩) h4 ?_
  simp only [Act.put, List.setIfInBounds_toArray, List.set_cons_zero, List.set_cons_succ]
  refine hd_take 15 (some 80) (.slice B3 x.pn.length d3) rfl rfl (by kernel_rfl) (by kernel_rfl) (by kernel_rfl) (fun _ _ _ h => nomatch h.1) (Or.inl ⟨by rfl, fun w hw => by have h9 := hw.2.2.2; go_simp⟩) h4 ?_
  simp only [Act.put, List.setIfInBounds_toArray, List.set_cons_zero, List.set_cons_succ]
  refine hd_take 16 (some 81) (.int .i64 (x.pn.length : Nat)) rfl rfl (by kernel_rfl) (by kernel_rfl) (by kernel_rfl) (fun _ _ _ h => nomatch h.1) (Or.inl ⟨by rfl, fun w hw => by go_simp⟩) h4 ?_
  simp only [Act.put, List.setIfInBounds_toArray, List.set_cons_zero, List.set_cons_succ]
  refine hd_take 17 (some 82) (.pointer (some ⟨X1, 2, none⟩)) rfl rfl (by kernel_rfl) (by kernel_rfl) (by kernel_rfl) (fun _ _ _ h => nomatch h.1) (Or.inl ⟨by rfl, fun w hw => by go_simp⟩) h4 ?_
  simp only [Act.put, List.setIfInBounds_toArray, List.set_cons_zero, List.set_cons_succ]
  refine hd_take 18 (some 83) (.slice B1 p.pn.length d1) rfl rfl (by kernel_rfl) (by kernel_rfl) (by kernel_rfl) (fun _ _ _ h => nomatch h.1) (Or.inl ⟨by rfl, fun w hw => by have h9 := hw.1.2; go_simp⟩) h4 ?_
  simp only [Act.put, List.setIfInBounds_toArray, List.set_cons_zero, List.set_cons_succ]
  refine hd_take 19 (some 84) (.int .i64 (p.pn.length : Nat)) rfl rfl (by kernel_rfl) (by kernel_rfl) (by kernel_rfl) (fun _ _ _ h => nomatch h.1) (Or.inl ⟨by rfl, fun w hw => by go_simp⟩) h4 ?_
  simp only [Act.put, List.setIfInBounds_toArray, List.set_cons_zero, List.set_cons_succ]
  refine hd_take 20 (some 85) (.pointer (some ⟨X2, 2, none⟩)) rfl rfl (by kernel_rfl) (by kernel_rfl) (by kernel_rfl) (fun _ _ _ h => nomatch h.1) (Or.inl ⟨by rfl, fun w hw => by go_simp⟩) h4 ?_
  simp only [Act.put, List.setIfInBounds_toArray, List.set_cons_zero, List.set_cons_succ]
  refine hd_take 21 (some 86) (.slice B2 q.pn.length d2) rfl rfl (by kernel_rfl) (by kernel_rfl) (by kernel_rfl) (fun _ _ _ h => nomatch h.1) (Or.inl ⟨by rfl, fun w hw => by have h9 := hw.2.1.2; go_simp⟩) h4 ?_
  simp only [Act.put, List.setIfInBounds_toArray, List.set_cons_zero, List.set_cons_succ]
  refine hd_take 22 (some 87) (.int .i64 (q.pn.length : Nat)) rfl rfl (by kernel_rfl) (by kernel_rfl) (by kernel_rfl) (fun _ _ _ h => nomatch h.1) (Or.inl ⟨by rfl, fun w hw => by go_simp⟩) h4 ?_
  simp only [Act.put, List.setIfInBounds_toArray, List.set_cons_zero, List.set_cons_succ]
  refine hd_take 23 (some 88) (.int .i64 (((p.pn.length : Nat) : Int) + ((q.pn.length : Nat) : Int))) rfl rfl (by kernel_rfl) (by kernel_rfl) (by kernel_rfl) (fun _ _ _ h => nomatch h.1) (Or.inl ⟨by rfl, fun w hw => by go_simp; exact IntWalk.i64_in _ (by omega)⟩) h4 ?_
  simp only [Act.put, List.setIfInBounds_toArray, List.set_cons_zero, List.set_cons_succ]
  refine hd_take 24 (some 89) (.bool true) rfl rfl (by kernel_rfl) (by kernel_rfl) (by kernel_rfl) (fun _ _ _ h => nomatch h.1) (Or.inl ⟨by rfl, fun w hw => by have h9 := HZ.out; go_simp⟩) h4 ?_
  simp only [Act.put, List.setIfInBounds_toArray, List.set_cons_zero, List.set_cons_succ]
  refine hd_take 25 (some 90) (.bool true) rfl rfl (by kernel_rfl) (by kernel_rfl) (by kernel_rfl) (fun _ _ _ h => nomatch h.1) (Or.inl ⟨by rfl, fun w hw => by go_simp⟩) h4 ?_
  simp only [Act.put, List.setIfInBounds_toArray, List.set_cons_zero, List.set_cons_succ]
  refine hd_take 26 (some 4) (.bool true) rfl rfl (by kernel_rfl) (by kernel_rfl) (by kernel_rfl) (fun _ _ _ h => nomatch h.1) (Or.inl ⟨by rfl, fun w hw => by go_simp⟩) h4 ?_
  simp only [Act.put, List.setIfInBounds_toArray, List.set_cons_zero, List.set_cons_succ]
  refine wpAnyH_done (by kernel_rfl) ⟨rfl, ?_⟩ _
  clear h4
  go_wp2_with fail
  go_ret
  exact ⟨rfl, HLd.out.trans (HBh.out.mono HLd.out.size)⟩
end Go.Proofs.YtlpondbcnfaggaaGreatDoor.Po
