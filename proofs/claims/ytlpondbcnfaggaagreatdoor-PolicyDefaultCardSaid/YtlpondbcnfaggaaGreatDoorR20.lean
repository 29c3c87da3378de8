/-
  law19's small case over this seat's translation, over the contracts of package policy. No condition.
-/
import Derived.Test.YtlpondbcnfaggaaGreatDoorR15
import Derived.Test.YtlpondbcnfaggaaGreatDoorR16
namespace Go.Proofs.YtlpondbcnfaggaaGreatDoor.Po
open Go.RowKit Go.Proofs.YtlpondbcnfaggaaGreatDoor.Wd Go.Proofs.YtlpondbcnfaggaaGreatDoor.Asc Go.Proofs.YtlpondbcnfaggaaGreatDoor.Tx Go.Proofs.YtlpondbcnfaggaaGreatDoor.St Go.Proofs.YtlpondbcnfaggaaGreatDoor.Tr Go.Proofs.YtlpondbcnfaggaaGreatDoor.Te
def sr1 : Ru := ⟨false, -5, [42, 46, 97], 80, [104, 50]⟩
def sx1 : Pn := ⟨[98, 46, 99], ⟨[0, 0, 0, 0, 0, 0, 0, 0, 0, 0, 255, 255, 10, 0, 0, 0], 104⟩, 9⟩
def p1 : Pol := ⟨true, [sr1], [sx1]⟩
def ts1 : List UInt8 := [35, 32, 97, 108, 108, 10, 32, 100, 101, 102, 97, 117, 108, 116, 32, 97, 108, 108, 111, 119, 10, 100, 101, 110, 121, 32, 45, 53, 32, 42, 46, 97, 32, 32, 112, 111, 114, 116, 32, 56, 48, 32, 97, 108, 112, 110, 32, 104, 50, 10, 10, 112, 105, 110, 32, 98, 46, 99, 32, 49, 48, 46, 48, 46, 48, 46, 48, 47, 56, 32, 117, 110, 116, 105, 108, 32, 57, 10]
def ts2 : List UInt8 := [100, 101, 102, 97, 117, 108, 116, 32, 100, 101, 110, 121, 10, 97, 108, 108, 111, 119, 32, 49, 32, 97, 10, 97, 108, 108, 111, 119, 32, 49, 32, 97]
def ts3 : List UInt8 := [97, 108, 108, 111, 119, 32, 49, 32, 97, 32, 112, 111, 114, 116]
def ts4 : List UInt8 := [112, 105, 110, 32, 65, 32, 49, 48, 46, 48, 46, 48, 46, 48, 47, 56]
def ts5 : List UInt8 := [119, 104, 97, 116]
def ts6 : List UInt8 := []
theorem ps1 : parseP ts1 = (p1, 0, 0) := by decide +kernel
theorem ps2 : parseP ts2 = (Pol.zero, 3, 7) := by decide +kernel
theorem ps3 : parseP ts3 = (Pol.zero, 1, 3) := by decide +kernel
theorem ps4 : parseP ts4 = (Pol.zero, 1, 9) := by decide +kernel
theorem ps5 : parseP ts5 = (Pol.zero, 1, 3) := by decide +kernel
theorem ps6 : parseP ts6 = (Pol.zero, 0, 0) := by decide +kernel
theorem sp_right : rightP p1 = 0 := by decide +kernel
def so1 : List UInt8 := [100, 101, 102, 97, 117, 108, 116, 32, 97, 108, 108, 111, 119, 10, 100, 101, 110, 121, 32, 45, 53, 32, 42, 46, 97, 32, 112, 111, 114, 116, 32, 56, 48, 32, 97, 108, 112, 110, 32, 104, 50, 10, 112, 105, 110, 32, 98, 46, 99, 32, 49, 48, 46, 48, 46, 48, 46, 48, 47, 56, 32, 117, 110, 116, 105, 108, 32, 57, 10]
theorem sp_print : printP p1 = so1 := by decide +kernel
theorem own_cap {w : World} {B n c : Nat} {A : Option Addr} {l : List Ru} (h : OwnU w B (.slice A n c) l) : n ≤ c := by
  obtain ⟨A', c', hv, hc, _⟩ := h.src
  injection hv with _ e2 e3
  omega
theorem own_capE {w : World} {B n c : Nat} {A : Option Addr} {l : List Pl} (h : OwnE w elPn B (.slice A n c) l) : n ≤ c := by
  obtain ⟨A', c', hv, hc, _⟩ := h.src finePn
  injection hv with _ e2 e3
  omega
theorem sm_parse (C : PoC) {B : Nat} {w : World} (hE : Ad.Env B w) (t : List UInt8) (p : Pol) (n : Nat) (er : Int) (h : parseP t = (p, n, er)) (hl : t.length ≤ 1000000) :
    Calls Tryz.prog 32 #[.string (str t)] w fun e w' => ∃ A1 c1 A2 c2 pn, e = .returned (.tuple #[.agg #[.bool p.al, .slice A1 p.ru.length c1, .slice A2 p.pn.length c2], .int .i64 (n : Nat), .int .i64 er]) ∧
      OwnU w' w.heap.size (.slice A1 p.ru.length c1) p.ru ∧ OwnE w' elPn w.heap.size (.slice A2 p.pn.length c2) pn ∧ plain pn = p.pn ∧ Below w.heap.size w w' := C.parse_ hE (str t) (by rw [str_size]; exact hl) p n er (by rw [bs_str]; exact h)
set_option linter.unusedSimpArgs false in
set_option maxRecDepth 100000 in
set_option maxHeartbeats 32000000 in
theorem small19 (C : PoC) : SmallP := by
  intro B W hE
  have HE := Lib.hid (fun w' (hb : Below W.heap.size W w') => hE.on hb)
  have HC := Lib.hid C
  have HL0 := Lib.hid (Below.refl W.heap.size W)
  clear hE C
  go_enter Tryz.func29, Tryz.ntmps29
  go_wp2_with fail
  refine (sm_parse HC.out (HE.out _ HL0.out) ts1 p1 0 0 ps1 (by decide)).mono ?_
  rintro e wa1 ⟨A1, c1, B1, d1, v1, rfl, ho1, ho2, hpn, hba⟩
  obtain ⟨wb1, hwb, hvb, hab, hlb⟩ := po_put (al := p1.al) (w0 := W) ho1 ho2 hpn (HL0.out.trans (hba.mono HL0.out.size)) #[.bool false, .slice none 0 0, .slice none 0 0]
  have HWb := Lib.hid hwb
  have HV1 := Lib.hid hvb
  have HPn1 := Lib.hid hpn
  have HCp := Lib.hid (And.intro (own_cap ho1) (own_capE ho2))
  have HL1 := Lib.hid hlb
  clear ho1 ho2 hpn hba hwb hvb hab hlb HL0
  go_upto_region 3 with (refine go_st 53 (Blk.new _ _ _) infPo rfl rfl (plV_one p1.al _ _ _ _ _ _) rfl rfl rfl rfl ?_)
  rw [HWb.out]
  obtain ⟨X1, hX⟩ : ∃ X, wa1.heap.size = X := ⟨_, rfl⟩
  rw [hX]
  rw [hX] at HV1
  clear HWb hX
  go_wp2_with fail
  refine (sm_parse HC.out (HE.out _ HL1.out) ts2 Pol.zero 3 7 ps2 (by decide)).mono ?_
  rintro e wa2 ⟨A2, c2, B2, d2, v2, rfl, ho1, ho2, hpn, hba⟩
  obtain ⟨wb2, hwb, hvb, hab, hlb⟩ := po_put (al := Pol.zero.al) (w0 := W) ho1 ho2 hpn (HL1.out.trans (hba.mono HL1.out.size)) #[.bool false, .slice none 0 0, .slice none 0 0]
  have HWb := Lib.hid hwb
  have HV1 := Lib.hid ((HV1.out.on hba).on hab)
  have HL2 := Lib.hid hlb
  clear ho1 ho2 hpn hba hwb hvb hab hlb HL1
  go_upto_region 4 with (refine go_st 53 (Blk.new _ _ _) infPo rfl rfl (plV_one Pol.zero.al _ _ _ _ _ _) rfl rfl rfl rfl ?_)
  rw [HWb.out]
  obtain ⟨X2, hX⟩ : ∃ X, wa2.heap.size = X := ⟨_, rfl⟩
  rw [hX]
  clear HWb hX
  go_wp2_with fail
  refine (sm_parse HC.out (HE.out _ HL2.out) ts3 Pol.zero 1 3 ps3 (by decide)).mono ?_
  rintro e wa3 ⟨A3, c3, B3, d3, v3, rfl, ho1, ho2, hpn, hba⟩
  obtain ⟨wb3, hwb, hvb, hab, hlb⟩ := po_put (al := Pol.zero.al) (w0 := W) ho1 ho2 hpn (HL2.out.trans (hba.mono HL2.out.size)) #[.bool false, .slice none 0 0, .slice none 0 0]
  have HWb := Lib.hid hwb
  have HV1 := Lib.hid ((HV1.out.on hba).on hab)
  have HL3 := Lib.hid hlb
  clear ho1 ho2 hpn hba hwb hvb hab hlb HL2
  go_upto_region 5 with (refine go_st 53 (Blk.new _ _ _) infPo rfl rfl (plV_one Pol.zero.al _ _ _ _ _ _) rfl rfl rfl rfl ?_)
  rw [HWb.out]
  obtain ⟨X3, hX⟩ : ∃ X, wa3.heap.size = X := ⟨_, rfl⟩
  rw [hX]
  clear HWb hX
  go_wp2_with fail
  refine (sm_parse HC.out (HE.out _ HL3.out) ts4 Pol.zero 1 9 ps4 (by decide)).mono ?_
  rintro e wa4 ⟨A4, c4, B4, d4, v4, rfl, ho1, ho2, hpn, hba⟩
  obtain ⟨wb4, hwb, hvb, hab, hlb⟩ := po_put (al := Pol.zero.al) (w0 := W) ho1 ho2 hpn (HL3.out.trans (hba.mono HL3.out.size)) #[.bool false, .slice none 0 0, .slice none 0 0]
  have HWb := Lib.hid hwb
  have HV1 := Lib.hid ((HV1.out.on hba).on hab)
  have HL4 := Lib.hid hlb
  clear ho1 ho2 hpn hba hwb hvb hab hlb HL3
  go_upto_region 6 with (refine go_st 53 (Blk.new _ _ _) infPo rfl rfl (plV_one Pol.zero.al _ _ _ _ _ _) rfl rfl rfl rfl ?_)
  rw [HWb.out]
  obtain ⟨X4, hX⟩ : ∃ X, wa4.heap.size = X := ⟨_, rfl⟩
  rw [hX]
  clear HWb hX
  go_wp2_with fail
  refine (sm_parse HC.out (HE.out _ HL4.out) ts5 Pol.zero 1 3 ps5 (by decide)).mono ?_
  rintro e wa5 ⟨A5, c5, B5, d5, v5, rfl, ho1, ho2, hpn, hba⟩
  obtain ⟨wb5, hwb, hvb, hab, hlb⟩ := po_put (al := Pol.zero.al) (w0 := W) ho1 ho2 hpn (HL4.out.trans (hba.mono HL4.out.size)) #[.bool false, .slice none 0 0, .slice none 0 0]
  have HWb := Lib.hid hwb
  have HV1 := Lib.hid ((HV1.out.on hba).on hab)
  have HL5 := Lib.hid hlb
  clear ho1 ho2 hpn hba hwb hvb hab hlb HL4
  go_upto_region 7 with (refine go_st 53 (Blk.new _ _ _) infPo rfl rfl (plV_one Pol.zero.al _ _ _ _ _ _) rfl rfl rfl rfl ?_)
  rw [HWb.out]
  obtain ⟨X5, hX⟩ : ∃ X, wa5.heap.size = X := ⟨_, rfl⟩
  rw [hX]
  clear HWb hX
  go_wp2_with fail
  refine (sm_parse HC.out (HE.out _ HL5.out) ts6 Pol.zero 0 0 ps6 (by decide)).mono ?_
  rintro e wa6 ⟨A6, c6, B6, d6, v6, rfl, ho1, ho2, hpn, hba⟩
  obtain ⟨wb6, hwb, hvb, hab, hlb⟩ := po_put (al := Pol.zero.al) (w0 := W) ho1 ho2 hpn (HL5.out.trans (hba.mono HL5.out.size)) #[.bool false, .slice none 0 0, .slice none 0 0]
  have HWb := Lib.hid hwb
  have HV1 := Lib.hid ((HV1.out.on hba).on hab)
  have HV6 := Lib.hid hvb
  have HL6 := Lib.hid hlb
  clear ho1 ho2 hpn hba hwb hvb hab hlb HL5
  go_upto_region 8 with (refine go_st 53 (Blk.new _ _ _) infPo rfl rfl (plV_one Pol.zero.al _ _ _ _ _ _) rfl rfl rfl rfl ?_)
  rw [HWb.out]
  obtain ⟨X6, hX⟩ : ∃ X, wa6.heap.size = X := ⟨_, rfl⟩
  rw [hX]
  rw [hX] at HV6
  clear HWb hX
  have v10 : wb6.cell? ⟨X1, 0, none⟩ = some (.bool true) := HV1.out.blk.cell 0
  have v11 : wb6.cell? ⟨X1, 1, none⟩ = some (.slice A1 1 c1) := HV1.out.blk.cell 1
  have v12 : wb6.cell? ⟨X1, 2, none⟩ = some (.slice B1 1 d1) := HV1.out.blk.cell 2
  have v60 : wb6.cell? ⟨X6, 0, none⟩ = some (.bool false) := HV6.out.blk.cell 0
  obtain ⟨r, g, o, hr, rfl, hg, hra⟩ := HV1.out.su.get (wr := wb6) (k := 0) (by decide) (Below.refl _ _)
  obtain rfl : sr1 = r := by injection hr
  obtain ⟨x, g2, o2, hx, rfl, hg2, hxa⟩ := HV1.out.se.pin (wr := wb6) (k := 0) (by rw [HV1.out.lp]; decide) (Below.refl _ _)
  have hx1 : x.1 = sx1 := by
    have h1 : (plain v1)[0]? = some x.1 := by unfold plain; rw [List.getElem?_map, hx]; rfl
    rw [HPn1.out] at h1
    injection h1 with h1
    exact h1.symm
  rw [hx1] at hxa
  rw [Nat.zero_mul, Nat.add_zero] at hra hxa
  have u0 : wb6.cell? ⟨g, o, none⟩ = some (.bool false) := hra.1
  have u1 : wb6.cell? ⟨g, o + 1, none⟩ = some (.int .i64 (-5)) := hra.2.1
  have u2 : wb6.cell? ⟨g, o + 2, none⟩ = some (.string ⟨#[42, 46, 97]⟩) := hra.2.2.1
  have u3 : wb6.cell? ⟨g, o + 3, none⟩ = some (.int .i64 80) := hra.2.2.2.1
  have u4 : wb6.cell? ⟨g, o + 4, none⟩ = some (.string ⟨#[104, 50]⟩) := hra.2.2.2.2
  have y0 : wb6.cell? ⟨g2, o2, none⟩ = some (.string ⟨#[98, 46, 99]⟩) := hxa 0 _ rfl
  have y17 : wb6.cell? ⟨g2, o2 + 17, none⟩ = some (.int .i64 104) := hxa 17 _ rfl
  have y18 : wb6.cell? ⟨g2, o2 + 18, none⟩ = some (.int .i64 9) := hxa 18 _ rfl
  have hok : ∀ x ∈ v1, OkP x := fun y hy => by
    have h1 : y.1 ∈ plain v1 := List.mem_map.2 ⟨y, hy, rfl⟩
    rw [HPn1.out] at h1
    have h2 : y.1 = sx1 := by simpa [p1] using h1
    exact ⟨by rw [h2]; decide, by rw [h2]; decide, by rw [h2]; decide, by rw [h2]; decide, by rw [h2]; decide⟩
  have hsh : ShortP p1 := ⟨fun y hy => by
    have h2 : y = sr1 := by simpa [p1] using hy
    rw [h2]; decide, fun y hy => by
    have h2 : y = sx1 := by simpa [p1] using hy
    rw [h2]; decide⟩
  have HPr := Lib.hid (HC.out.print_ (HE.out _ HL6.out) p1 (some ⟨g, o, none⟩) (some ⟨g2, o2, none⟩) 1 c1 1 d1 v1 HV1.out.su rfl HCp.out.1 HV1.out.se HPn1.out rfl HCp.out.2 (by decide) (by decide) hsh sp_right)
  rw [sp_print] at HPr
  have HRi := Lib.hid (fun w' (hb : Below wb6.heap.size wb6 w') => HC.out.right_ (HE.out _ (HL6.out.trans (hb.mono HL6.out.size))) p1 (some ⟨g, o, none⟩) (some ⟨g2, o2, none⟩) 1 c1 1 d1 v1 ((HV1.out.on hb).su) rfl HCp.out.1 ((HV1.out.on hb).se) HPn1.out rfl HCp.out.2 (by decide) (by decide) hsh hok)
  rw [sp_right] at HRi
  have hbx := HV1.out.blk
  clear hr hg hx hg2 hxa hx1 hok hsh hra
  go_upto_region 10 with fail
  go_wp2_with (first | (refine go_eqlU sr1 sr1 true (by decide) rfl (by first | rfl | kernel_rfl) rfl rfl ?_) | (refine go_ldg (x := .tmp 2) 53 hbx undPo rfl infPo rfl (by first | rfl | kernel_rfl) rfl rfl ?_))
  refine HPr.out.mono ?_
  rintro e wz ⟨rfl, hbz⟩
  have hbx2 := hbx.below hbz hbx.lt
  have HRz := Lib.hid (HRi.out _ hbz)
  have HLz := Lib.hid (HL6.out.trans (hbz.mono HL6.out.size))
  have hso : (so1 == [100, 101, 102, 97, 117, 108, 116, 32, 97, 108, 108, 111, 119, 10, 100, 101, 110, 121, 32, 45, 53, 32, 42, 46, 97, 32, 112, 111, 114, 116, 32, 56, 48, 32, 97, 108, 112, 110, 32, 104, 50, 10, 112, 105, 110, 32, 98, 46, 99, 32, 49, 48, 46, 48, 46, 48, 46, 48, 47, 56, 32, 117, 110, 116, 105, 108, 32, 57, 10]) = true := by decide
  clear hbz hbx HPr HRi
  go_wp2_with (refine go_ldg (x := .tmp 2) 53 hbx2 undPo rfl infPo rfl (by first | rfl | kernel_rfl) rfl rfl ?_)
  refine HRz.out.mono ?_
  rintro e wy ⟨rfl, hby⟩
  have HLy := Lib.hid (HLz.out.trans (hby.mono HLz.out.size))
  clear hby HRz hbx2
  go_wp2_with fail
  go_ret
  exact ⟨rfl, HLy.out⟩
end Go.Proofs.YtlpondbcnfaggaaGreatDoor.Po
