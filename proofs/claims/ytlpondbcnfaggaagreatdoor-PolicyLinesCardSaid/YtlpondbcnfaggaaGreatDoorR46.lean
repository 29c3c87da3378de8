/-
  PolicyLines's walk over the bundle of package policy's contracts. No condition beyond the statement's own.
-/
import Derived.Test.YtlpondbcnfaggaaGreatDoorR15
namespace Go.Proofs.YtlpondbcnfaggaaGreatDoor.Po
open Go.RowKit Go.Proofs.YtlpondbcnfaggaaGreatDoor.Wd Go.Proofs.YtlpondbcnfaggaaGreatDoor.Asc Go.Proofs.YtlpondbcnfaggaaGreatDoor.Tx Go.Proofs.YtlpondbcnfaggaaGreatDoor.St Go.Proofs.YtlpondbcnfaggaaGreatDoor.Tr Go.Proofs.YtlpondbcnfaggaaGreatDoor.Te
set_option linter.unusedSimpArgs false in
set_option maxRecDepth 100000 in
set_option maxHeartbeats 32000000 in
theorem lines_walk (C : PoC) (hSm : SmallP) (W : World) (s more : ByteArray) (hE : Ad.Env W.heap.size W) (hs : s.size ≤ 9223372036854775807) (hm : more.size ≤ 9223372036854775807) :
    Calls Tryz.prog 10 #[.string s, .string more] W fun e w' => e = .returned (.bool true) ∧ Below W.heap.size W w' := by
  have HSm := Lib.hid (fun w' (hb : Below W.heap.size W w') => hSm w' (hE.on hb))
  have HE := Lib.hid hE
  obtain ⟨n, hn⟩ : ∃ n, s.size = n := ⟨_, rfl⟩
  obtain ⟨m, hm'⟩ : ∃ m, more.size = m := ⟨_, rfl⟩
  have HN := Lib.hid hn
  have HM := Lib.hid hm'
  rw [hn] at hs
  rw [hm'] at hm
  clear hSm hE
  go_enter Tryz.func10, Tryz.ntmps10
  go_wp2_with fail
  refine (HSm.out _ (Below.refl _ _)).mono ?_
  rintro e w1 ⟨rfl, hb1⟩
  have HB1 := Lib.hid hb1
  clear HSm hb1
  by_cases hl : 1000 < n
  · have hl2 : (1000 : Int) < (n : Int) := by omega
    go_wp2_with fail
    go_ret
    exact ⟨rfl, HB1.out⟩
  have hl2 : ¬ (1000 : Int) < (n : Int) := by omega
  by_cases hk : 1000 < m
  · have hk2 : (1000 : Int) < (m : Int) := by omega
    go_wp2_with fail
    go_ret
    exact ⟨rfl, HB1.out⟩
  have hk2 : ¬ (1000 : Int) < (m : Int) := by omega
  obtain ⟨⟨p, k, er⟩, hpp⟩ : ∃ x, parseP (bs s) = x := ⟨_, rfl⟩
  obtain ⟨⟨py, kk, g⟩, hpy⟩ : ∃ x, parseP (bs s ++ 10 :: bs more) = x := ⟨_, rfl⟩
  obtain ⟨k2, hk9⟩ : ∃ k2, (if er = 0 then k else k + 2) = k2 := ⟨_, rfl⟩
  have hx := lines_told (bs s)
  have hy := more_told (bs s) (bs more)
  rw [hpy, hpp] at hy
  rw [hpp] at hx
  have hx2 : parseP ([35, 32, 97, 10, 9, 10] ++ bs s ++ [10, 32, 35, 98]) = (p, k2, er) := by
    rw [hx, ← hk9]
    dsimp only
    by_cases h : er = 0
    · rw [if_pos h, if_pos h]
    · rw [if_neg h, if_neg h]
  have HC1 := Lib.hid (fun w' hb => C.parse_ (B := W.heap.size) (w := w') (HE.out.on hb) s (by omega) p k er hpp)
  have HC2 := Lib.hid (fun w' hb => C.parse_ (B := W.heap.size) (w := w') (HE.out.on hb) (⟨#[35, 32, 97, 10, 9, 10]⟩ ++ s ++ ⟨#[10, 32, 35, 98]⟩) (by rw [ba_size, ba_size, hn]; show 6 + n + 4 ≤ 1000000; omega) p k2 er (by
    rw [bs_add, bs_add]
    exact hx2))
  have HC3 := Lib.hid (fun w' hb => C.parse_ (B := W.heap.size) (w := w') (HE.out.on hb) (s ++ ⟨#[10]⟩ ++ more) (by rw [ba_size, ba_size, hn, hm']; show n + 1 + m ≤ 1000000; omega) py kk g (by
    rw [bs_add, bs_add, ← hpy]
    show parseP (bs s ++ [10] ++ bs more) = _
    rw [List.append_assoc]
    rfl))
  have HPp := Lib.hid hpp
  have HK9 := Lib.hid hk9
  have HY := Lib.hid hy
  have hn9 : n ≤ 1000 := by omega
  clear hpp hpy hk9 hx hy hx2
  go_wp2_with fail
  refine (HC1.out _ HB1.out).mono ?_
  rintro e wa1 ⟨A1, c1, B1, d1, ps1, rfl, ho1, ho2, hpn, hba⟩
  obtain ⟨wb1, hwb, hvb, hab, hlb⟩ := po_put (al := p.al) (w0 := W) ho1 ho2 hpn (HB1.out.trans (hba.mono HB1.out.size)) #[.bool false, .slice none 0 0, .slice none 0 0]
  have HV1 := Lib.hid hvb
  have HL1 := Lib.hid hlb
  have HPn1 := Lib.hid hpn
  have HWb := Lib.hid hwb
  clear ho1 ho2 hpn hba hwb hvb hab hlb
  go_upto_region 5 with (refine go_st 53 (Blk.new _ _ _) infPo rfl rfl (plV_one p.al _ _ _ _ _ _) rfl rfl rfl rfl ?_)
  rw [HWb.out]
  obtain ⟨X1, hX⟩ : ∃ X, wa1.heap.size = X := ⟨_, rfl⟩
  rw [hX] at HV1 ⊢
  clear HWb hX
  clear HC1 hl hl2 hk hk2
  go_wp2_with fail
  refine (HC2.out _ HL1.out).mono ?_
  rintro e wa2 ⟨A2, c2, B2, d2, ps2, rfl, ho1, ho2, hpn, hba⟩
  obtain ⟨wb2, hwb, hvb, hab, hlb⟩ := po_put (al := p.al) (w0 := W) ho1 ho2 hpn (HL1.out.trans (hba.mono HL1.out.size)) #[.bool false, .slice none 0 0, .slice none 0 0]
  have HV1 := Lib.hid ((HV1.out.on hba).on hab)
  have HV2 := Lib.hid hvb
  have HL2 := Lib.hid hlb
  have HPn2 := Lib.hid hpn
  have HWb := Lib.hid hwb
  clear ho1 ho2 hpn hba hwb hvb hab hlb
  go_upto_region 6 with (refine go_st 53 (Blk.new _ _ _) infPo rfl rfl (plV_one p.al _ _ _ _ _ _) rfl rfl rfl rfl ?_)
  rw [HWb.out]
  obtain ⟨X2, hX⟩ : ∃ X, wa2.heap.size = X := ⟨_, rfl⟩
  rw [hX] at HV2 ⊢
  clear HWb hX
  clear HC2
  go_wp2_with fail
  refine (HC3.out _ HL2.out).mono ?_
  rintro e wa3 ⟨A3, c3, B3, d3, ps3, rfl, ho1, ho2, hpn, hba⟩
  obtain ⟨wb3, hwb, hvb, hab, hlb⟩ := po_put (al := py.al) (w0 := W) ho1 ho2 hpn (HL2.out.trans (hba.mono HL2.out.size)) #[.bool false, .slice none 0 0, .slice none 0 0]
  have HV1 := Lib.hid ((HV1.out.on hba).on hab)
  have HV2 := Lib.hid ((HV2.out.on hba).on hab)
  have HV3 := Lib.hid hvb
  have HL3 := Lib.hid hlb
  have HPn3 := Lib.hid hpn
  have HWb := Lib.hid hwb
  clear ho1 ho2 hpn hba hwb hvb hab hlb
  go_upto_region 7 with (refine go_st 53 (Blk.new _ _ _) infPo rfl rfl (plV_one py.al _ _ _ _ _ _) rfl rfl rfl rfl ?_)
  rw [HWb.out]
  obtain ⟨X3, hX⟩ : ∃ X, wa3.heap.size = X := ⟨_, rfl⟩
  rw [hX] at HV3 ⊢
  clear HWb hX
  clear HC3
  by_cases h0 : er = 0
  case neg =>
    have q0 : (er != 0) = true := by rw [bne_iff_ne]; exact h0
    have hy := HY.out
    rw [if_neg h0, Prod.mk.injEq, Prod.mk.injEq] at hy
    obtain ⟨e1, e2, e3⟩ := hy
    subst e1
    subst e2
    subst e3
    have he := parse_err (s := bs s) (by rw [HPp.out]; exact h0)
    rw [HPp.out, bs_length, HN.out] at he
    obtain ⟨e1, _, hk8⟩ := he
    subst e1
    have hk7 := HK9.out
    rw [if_neg h0] at hk7
    subst hk7
    have hk6 : kk + 2 ≤ 9223372036854775807 := by have : kk ≤ n + 1 := hk8; omega
    have hk5 : ((kk + 2 : Nat) : Int) = ((kk : Nat) : Int) + 2 := by omega
    rw [hk5]
    have v0 : wb3.cell? ⟨X3, 0, none⟩ = some (.bool false) := HV3.out.blk.cell 0
    clear hk5 hk8
    go_wp2_with fail
    go_ret
    exact ⟨rfl, HL3.out⟩
  subst h0
  have hk7 := HK9.out
  rw [if_pos rfl] at hk7
  subst hk7
  have h8 := parse_ok (s := bs s) (by rw [HPp.out])
  rw [HPp.out] at h8
  obtain ⟨h8, h9⟩ := h8
  have HMo := Lib.hid (show p.ru.length ≤ 200 ∧ p.pn.length ≤ 200 from right_most h9)
  have h8' : k = 0 := h8
  subst h8'
  have hy := HY.out
  rw [if_pos rfl] at hy
  have HSm := Lib.hid (psame_any p.al p.al p.ru p.ru ps1 ps2 A1 B1 A2 B2 p.ru.length c1 p.pn.length d1 p.ru.length c2 p.pn.length d2 wb3 HV1.out.su rfl HV1.out.se HV1.out.lp HV2.out.su rfl HV2.out.se HV2.out.lp (by have := HMo.out.1; omega) (by have := HMo.out.2; omega))
  have HEq := Lib.hid (show decide ((⟨p.al, p.ru, plain ps1⟩ : Pol) = ⟨p.al, p.ru, plain ps2⟩) = true from decide_eq_true (by rw [HPn1.out, HPn2.out]))
  have b1 := HV1.out.blk
  have b2 := HV2.out.blk
  clear h8 h9
  by_cases hg : g = 0
  · have hkk : kk = 0 := hy.1 hg
    subst hg
    subst hkk
    clear hy
    go_wp2_with (first | (refine go_ldg (x := .tmp 6) 53 b1 undPo rfl infPo rfl (by rfl) rfl rfl ?_) | (refine go_ldg (x := .tmp 9) 53 b2 undPo rfl infPo rfl (by rfl) rfl rfl ?_))
    refine HSm.out.mono ?_
    rintro e w7 ⟨rfl, hb7⟩
    rw [HEq.out]
    go_wp2_with fail
    go_ret
    exact ⟨rfl, HL3.out.trans (hb7.mono HL3.out.size)⟩
  · have hkk : kk ≠ 0 := fun e => hg (hy.2 e)
    have g1 : (g == 0) = false := by rw [beq_eq_false_iff_ne]; exact hg
    have g2 : (((kk : Nat) : Int) == 0) = false := by rw [beq_eq_false_iff_ne]; omega
    clear hy
    go_wp2_with (first | (refine go_ldg (x := .tmp 6) 53 b1 undPo rfl infPo rfl (by rfl) rfl rfl ?_) | (refine go_ldg (x := .tmp 9) 53 b2 undPo rfl infPo rfl (by rfl) rfl rfl ?_))
    refine HSm.out.mono ?_
    rintro e w7 ⟨rfl, hb7⟩
    rw [HEq.out]
    go_wp2_with fail
    go_ret
    exact ⟨rfl, HL3.out.trans (hb7.mono HL3.out.size)⟩
end Go.Proofs.YtlpondbcnfaggaaGreatDoor.Po
