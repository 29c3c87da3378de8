/-
  PolicyDefault's walk over the bundle of package policy's contracts. No condition beyond the statement's own.
-/
import Derived.Test.YtlpondbcnfaggaaGreatDoorR15
namespace Go.Proofs.YtlpondbcnfaggaaGreatDoor.Po
open Go.RowKit Go.Proofs.YtlpondbcnfaggaaGreatDoor.Wd Go.Proofs.YtlpondbcnfaggaaGreatDoor.Asc Go.Proofs.YtlpondbcnfaggaaGreatDoor.Tx Go.Proofs.YtlpondbcnfaggaaGreatDoor.St Go.Proofs.YtlpondbcnfaggaaGreatDoor.Tr Go.Proofs.YtlpondbcnfaggaaGreatDoor.Te
set_option linter.unusedSimpArgs false in
set_option maxRecDepth 100000 in
set_option maxHeartbeats 16000000 in
theorem default_walk (C : PoC) (hSm : SmallP) (W : World) (s : ByteArray) (b : Bool) (hE : Ad.Env W.heap.size W) (hs : s.size ≤ 9223372036854775807) :
    Calls Tryz.prog 11 #[.string s, .bool b] W fun e w' => e = .returned (.bool true) ∧ Below W.heap.size W w' := by
  have HSm := Lib.hid (fun w' (hb : Below W.heap.size W w') => hSm w' (hE.on hb))
  have HE := Lib.hid hE
  obtain ⟨n, hn⟩ : ∃ n, s.size = n := ⟨_, rfl⟩
  have HN := Lib.hid hn
  rw [hn] at hs
  clear hSm hE hn
  go_enter Tryz.func11, Tryz.ntmps11
  go_wp2_with fail
  refine (HSm.out _ (Below.refl _ _)).mono ?_
  rintro e w1 ⟨rfl, hb1⟩
  have HB1 := Lib.hid hb1
  have hn := HN.out
  clear HSm hb1
  by_cases hl : 1500 < n
  · have hl2 : (1500 : Int) < (n : Int) := by omega
    go_wp2_with fail
    go_ret
    exact ⟨rfl, HB1.out⟩
  have hl2 : ¬ (1500 : Int) < (n : Int) := by omega
  obtain ⟨⟨p, k, er⟩, hpp⟩ : ∃ x, parseP (bs s) = x := ⟨_, rfl⟩
  have HPp := Lib.hid hpp
  have HC1 := Lib.hid (fun w' hb => C.parse_ (B := W.heap.size) (w := w') (HE.out.on hb) s (by omega) p k er hpp)
  clear hpp
  go_wp2_with fail
  refine (HC1.out _ HB1.out).mono ?_
  rintro e w2 ⟨A1, c1, A2, c2, ps, rfl, ho1, ho2, hpn, hb2⟩
  obtain ⟨w3, hw3, hv3, _, hl3⟩ := po_put (al := p.al) (w0 := W) ho1 ho2 hpn (HB1.out.trans (hb2.mono HB1.out.size)) #[.bool false, .slice none 0 0, .slice none 0 0]
  have HV3 := Lib.hid hv3
  have HL3 := Lib.hid hl3
  have HPn := Lib.hid hpn
  have HW3 := Lib.hid hw3
  clear ho1 ho2 hpn hb2 hw3 hv3 hl3 HC1 hl hl2
  go_upto_region 5 with (refine go_st 53 (Blk.new _ _ _) infPo rfl rfl (plV_one p.al _ _ _ _ _ _) rfl rfl rfl rfl ?_)
  rw [HW3.out]
  obtain ⟨X, hX⟩ : ∃ X, w2.heap.size = X := ⟨_, rfl⟩
  rw [hX] at HV3 ⊢
  clear HW3 hX
  by_cases h0 : er = 0
  case neg =>
    have q0 : (er != 0) = true := by rw [bne_iff_ne]; exact h0
    clear h0
    go_wp2_with fail
    go_ret
    exact ⟨rfl, HL3.out⟩
  subst h0
  have HMo := Lib.hid (right_most (parse_ok (s := bs s) (by rw [HPp.out])).2)
  rw [HPp.out] at HMo
  -- the text with the line more
  have HD := Lib.hid (fun b => (default_told (s := bs s) (by rw [HPp.out]) b : _))
  rw [HPp.out] at HD
  cases b
  case false =>
    have HC2 := Lib.hid (fun w' hb => C.parse_ (B := W.heap.size) (w := w') (HE.out.on hb) (s ++ ⟨#[10, 32, 100, 101, 102, 97, 117, 108, 116, 32, 32]⟩ ++ ⟨#[100, 101, 110, 121]⟩ ++ ⟨#[9]⟩) (by rw [ba_size, ba_size, ba_size, HN.out]; show n + 11 + 4 + 1 ≤ 1000000; omega) { p with al := false } 0 0 (by
      rw [bs_add, bs_add, bs_add]
      have h9 := HD.out false
      show parseP (bs s ++ [10, 32, 100, 101, 102, 97, 117, 108, 116, 32, 32] ++ [100, 101, 110, 121] ++ [9]) = _
      simpa [kDefault, kAllow, kDeny] using h9))
    go_wp2_with fail
    refine (HC2.out _ HL3.out).mono ?_
    rintro e w4 ⟨B1, d1, B2, d2, qs, rfl, ho1, ho2, hpn, hb4⟩
    have HV4 := Lib.hid (HV3.out.on hb4)
    obtain ⟨w5, hw5, hv5, hl45, hl5⟩ := po_put (al := false) (w0 := W) ho1 ho2 hpn (HL3.out.trans (hb4.mono HL3.out.size)) #[.bool false, .slice none 0 0, .slice none 0 0]
    have HV5 := Lib.hid hv5
    have HL4 := Lib.hid (HL3.out.trans (hb4.mono HL3.out.size))
    have HX5 := Lib.hid (HV4.out.on hl45)
    have HL5 := Lib.hid hl5
    have HQn := Lib.hid hpn
    have HSq := Lib.hid (own_srcs ho1 ho2)
    have H45 := Lib.hid hl45
    have HX4 := HV4
    have HW5 := Lib.hid hw5
    clear ho1 ho2 hpn hb4 hw5 hv5 hl5 hl45 HC2 HV4 HV3
    go_upto_region 11 with (refine go_st 53 (Blk.new _ _ _) infPo rfl rfl (plV_one false _ _ _ _ _ _) rfl rfl rfl rfl ?_)
    rw [HW5.out]
    obtain ⟨Y, hY⟩ : ∃ Y, w4.heap.size = Y := ⟨_, rfl⟩
    rw [hY] at HV5 ⊢
    have HYs := Lib.hid hY
    clear HW5 hY
    have y0 : w5.cell? ⟨Y, 0, none⟩ = some (.bool false) := HV5.out.blk.cell 0
    have yf := HV5.out.blk.frozen 0
    have x0 : w5.cell? ⟨X, 0, none⟩ = some (.bool p.al) := HX5.out.blk.cell 0
    go_upto_region 14 with fail
    have h46 : Below w4.heap.size w4 (w5.setCell ⟨Y, 0, none⟩ (.bool p.al)) := H45.out.setCell (p := ⟨Y, 0, none⟩) (by show w4.heap.size ≤ Y; rw [HYs.out]; exact Nat.le_refl _) _
    have bY : Blk (w5.setCell ⟨Y, 0, none⟩ (.bool p.al)) Y 53 (plV p.al B1 p.ru.length d1 B2 p.pn.length d2) := HV5.out.blk.set_ 0 (.bool p.al)
    have hX := HX4.out.on h46
    have hl6 : Below W.heap.size W (w5.setCell ⟨Y, 0, none⟩ (.bool p.al)) := HL5.out.setCell (p := ⟨Y, 0, none⟩) (by have := HL5.out.size; have := HV5.out.blk.lt; show W.heap.size ≤ Y; rw [← HYs.out]; exact HL4.out.size) _
    have HSm := Lib.hid (psame_any p.al p.al p.ru p.ru ps qs A1 A2 B1 B2 p.ru.length c1 p.pn.length c2 p.ru.length d1 p.pn.length d2 (w5.setCell ⟨Y, 0, none⟩ (.bool p.al)) hX.su rfl hX.se hX.lp (HSq.out.1.below h46) rfl (HSq.out.2.below h46) (by have := congrArg List.length HQn.out; simpa [plain] using this) (by have := HMo.out.1; omega) (by have := HMo.out.2; omega))
    have HEq := Lib.hid (show decide ((⟨p.al, p.ru, plain ps⟩ : Pol) = ⟨p.al, p.ru, plain qs⟩) = true from decide_eq_true (by rw [HPn.out, HQn.out]))
    have bX := hX.blk
    have HL6 := Lib.hid hl6
    clear h46 hX hl6 y0 yf x0
    generalize w5.setCell ⟨Y, 0, none⟩ (.bool p.al) = w6 at *
    go_wp2_with (first | (refine go_ldg (x := .tmp 6) 53 bX undPo rfl infPo rfl (by rfl) rfl rfl ?_) | (refine go_ldg (x := .tmp 10) 53 bY undPo rfl infPo rfl (by rfl) rfl rfl ?_))
    refine HSm.out.mono ?_
    rintro e w7 ⟨rfl, hb7⟩
    rw [HEq.out]
    go_wp2_with fail
    go_ret
    exact ⟨rfl, HL6.out.trans (hb7.mono HL6.out.size)⟩
  case true =>
    have HC2 := Lib.hid (fun w' hb => C.parse_ (B := W.heap.size) (w := w') (HE.out.on hb) (s ++ ⟨#[10, 32, 100, 101, 102, 97, 117, 108, 116, 32, 32]⟩ ++ ⟨#[97, 108, 108, 111, 119]⟩ ++ ⟨#[9]⟩) (by rw [ba_size, ba_size, ba_size, HN.out]; show n + 11 + 5 + 1 ≤ 1000000; omega) { p with al := true } 0 0 (by
      rw [bs_add, bs_add, bs_add]
      have h9 := HD.out true
      show parseP (bs s ++ [10, 32, 100, 101, 102, 97, 117, 108, 116, 32, 32] ++ [97, 108, 108, 111, 119] ++ [9]) = _
      simpa [kDefault, kAllow, kDeny] using h9))
    go_wp2_with fail
    refine (HC2.out _ HL3.out).mono ?_
    rintro e w4 ⟨B1, d1, B2, d2, qs, rfl, ho1, ho2, hpn, hb4⟩
    have HV4 := Lib.hid (HV3.out.on hb4)
    obtain ⟨w5, hw5, hv5, hl45, hl5⟩ := po_put (al := true) (w0 := W) ho1 ho2 hpn (HL3.out.trans (hb4.mono HL3.out.size)) #[.bool false, .slice none 0 0, .slice none 0 0]
    have HV5 := Lib.hid hv5
    have HL4 := Lib.hid (HL3.out.trans (hb4.mono HL3.out.size))
    have HX5 := Lib.hid (HV4.out.on hl45)
    have HL5 := Lib.hid hl5
    have HQn := Lib.hid hpn
    have HSq := Lib.hid (own_srcs ho1 ho2)
    have H45 := Lib.hid hl45
    have HX4 := HV4
    have HW5 := Lib.hid hw5
    clear ho1 ho2 hpn hb4 hw5 hv5 hl5 hl45 HC2 HV4 HV3
    go_upto_region 11 with (refine go_st 53 (Blk.new _ _ _) infPo rfl rfl (plV_one true _ _ _ _ _ _) rfl rfl rfl rfl ?_)
    rw [HW5.out]
    obtain ⟨Y, hY⟩ : ∃ Y, w4.heap.size = Y := ⟨_, rfl⟩
    rw [hY] at HV5 ⊢
    have HYs := Lib.hid hY
    clear HW5 hY
    have y0 : w5.cell? ⟨Y, 0, none⟩ = some (.bool true) := HV5.out.blk.cell 0
    have yf := HV5.out.blk.frozen 0
    have x0 : w5.cell? ⟨X, 0, none⟩ = some (.bool p.al) := HX5.out.blk.cell 0
    go_upto_region 14 with fail
    have h46 : Below w4.heap.size w4 (w5.setCell ⟨Y, 0, none⟩ (.bool p.al)) := H45.out.setCell (p := ⟨Y, 0, none⟩) (by show w4.heap.size ≤ Y; rw [HYs.out]; exact Nat.le_refl _) _
    have bY : Blk (w5.setCell ⟨Y, 0, none⟩ (.bool p.al)) Y 53 (plV p.al B1 p.ru.length d1 B2 p.pn.length d2) := HV5.out.blk.set_ 0 (.bool p.al)
    have hX := HX4.out.on h46
    have hl6 : Below W.heap.size W (w5.setCell ⟨Y, 0, none⟩ (.bool p.al)) := HL5.out.setCell (p := ⟨Y, 0, none⟩) (by have := HL5.out.size; have := HV5.out.blk.lt; show W.heap.size ≤ Y; rw [← HYs.out]; exact HL4.out.size) _
    have HSm := Lib.hid (psame_any p.al p.al p.ru p.ru ps qs A1 A2 B1 B2 p.ru.length c1 p.pn.length c2 p.ru.length d1 p.pn.length d2 (w5.setCell ⟨Y, 0, none⟩ (.bool p.al)) hX.su rfl hX.se hX.lp (HSq.out.1.below h46) rfl (HSq.out.2.below h46) (by have := congrArg List.length HQn.out; simpa [plain] using this) (by have := HMo.out.1; omega) (by have := HMo.out.2; omega))
    have HEq := Lib.hid (show decide ((⟨p.al, p.ru, plain ps⟩ : Pol) = ⟨p.al, p.ru, plain qs⟩) = true from decide_eq_true (by rw [HPn.out, HQn.out]))
    have bX := hX.blk
    have HL6 := Lib.hid hl6
    clear h46 hX hl6 y0 yf x0
    generalize w5.setCell ⟨Y, 0, none⟩ (.bool p.al) = w6 at *
    go_wp2_with (first | (refine go_ldg (x := .tmp 6) 53 bX undPo rfl infPo rfl (by rfl) rfl rfl ?_) | (refine go_ldg (x := .tmp 10) 53 bY undPo rfl infPo rfl (by rfl) rfl rfl ?_))
    refine HSm.out.mono ?_
    rintro e w7 ⟨rfl, hb7⟩
    rw [HEq.out]
    go_wp2_with fail
    go_ret
    exact ⟨rfl, HL6.out.trans (hb7.mono HL6.out.size)⟩
end Go.Proofs.YtlpondbcnfaggaaGreatDoor.Po
