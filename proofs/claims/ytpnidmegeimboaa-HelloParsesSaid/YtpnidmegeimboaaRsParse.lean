/-
  Contracts of hagioscoperef09's Parse and Print over this seat's translation.
-/
import Derived.Test.YtpnidmegeimboaaRsLaid
import Derived.Test.YtpnidmegeimboaaRsWrong
import Derived.Test.YtpnidmegeimboaaRsLay
namespace Go.Proofs.Ytpnidmegeimboaa.He
open Go.RowKit Go.Proofs.Ytpnidmegeimboaa.Wd Go.Proofs.Ytpnidmegeimboaa.Be

def RParsePost (xs : List UInt8) (w : World) (e : Ending) (w' : World) : Prop :=
  ∃ H, e = .returned (.tuple #[.agg H.C, .int .i64 (parseS xs).2]) ∧ HOwq w' H ∧ H.hel = (parseS xs).1 ∧ Below w.heap.size w w'
theorem zero_rowq {w : World} {g : Nat} {H : Hv} (h : HOwq w H) {t : TypeId} {cs : Array Value} (hb : Blk w g t cs) (ht : ¬ TW t) (C : Array Value) : HOwq (w.setRow g C) H := h.off (only_row _ _ _) (OffT.of_blk hb ht)

set_option maxRecDepth 100000 in
set_option maxHeartbeats 1000000 in
theorem rparse_any (A : Option Addr) (n c : Nat) (xs : List UInt8) (w : World) (hs : Src w A n xs) (hn : n ≤ 100000) (hnc : n ≤ c) (hc : c ≤ 9223372036854775807) :
    Calls Try.prog 11 #[.slice A n c] w (RParsePost xs w) := by
  have HS := Lib.hid hs
  clear hs
  go_enter Try.func11, Try.ntmps11
  go_wp2_with fail
  refine (rlaid_any A n c xs _ (HS.out.alloc _) hn hnc hc).mono ?_
  rintro e w1 ⟨H, rfl, hown, hh1, hh2, hb⟩
  rw [← zeroC] at hb
  have hr1 : Blk w1 w.heap.size 28 Hv.zero.C := Blk.below (Blk.new _ _ _) hb (by simp)
  have hb1 : Below w.heap.size w w1 := ((Below.refl _ _).alloc (Nat.le_refl _) _).trans (hb.mono (by simp))
  have hlt := hr1.lt
  have HB1 := Lib.hid hb1
  have HR1 := Lib.hid hr1
  have HO1 := Lib.hid hown
  have HH1 := Lib.hid hh1
  have hsz := Hv.size hown.rnd
  clear hb hb1 hr1 hown hh1 hh2 hnc hc hn
  go_upto_region 2 with (refine go_st 28 (Blk.new _ _ _) infH rfl hsz (Hv.one _) rfl rfl rfl rfl ?_)
  rw [← zeroC]
  have HK := Lib.hid (setRow_blk (new := H.C) (Blk.new w1 28 Hv.zero.C))
  have HR2 := Lib.hid (Blk.row_far (HR1.out.alloc (.cells Hv.zero.C 28)) (g' := w1.heap.size) (by omega) H.C)
  have HB2 := Lib.hid (setRow_below (HB1.out.alloc (by omega) (.cells Hv.zero.C 28)) (g := w1.heap.size) (by omega) H.C)
  have HO2 := Lib.hid (zero_rowq (HO1.out.below ((Below.refl _ _).alloc (Nat.le_refl _) (.cells Hv.zero.C 28))) (Blk.new w1 28 Hv.zero.C) (by unfold TW; decide) H.C)
  have hne : w.heap.size ≠ w1.heap.size := by omega
  have hle : w.heap.size ≤ w1.heap.size := by omega
  generalize (w1.alloc (.cells Hv.zero.C 28)).setRow w1.heap.size H.C = w2 at *
  generalize w1.heap.size = g at *
  clear HO1 HR1 HB1 hlt
  have hg2 := HK.out.lt
  cases hok : okS xs with
  | false =>
    have HP := Lib.hid (parse_form hok)
    go_wp2_with (first
      | (refine go_bd0 28 _ builtH rfl rfl ?_)
      | (refine go_st 28 HR2.out infH (Hv.size rfl) (Hv.size rfl) (Hv.one _) rfl rfl rfl rfl ?_))
    exact ret_two Try.results11 (setRow_blk HR2.out) undH rfl infH (Hv.size rfl) rfl rfl ⟨Hv.zero, by rw [HP.out]; rfl, HOwq.zero _, by rw [HP.out]; rfl, setRow_below HB2.out (Nat.le_refl _) _⟩ rfl
  | true =>
    have HH := Lib.hid (HH1.out hok)
    go_wp2_with (refine go_ld (x := .tmp 4) 28 HK.out undH rfl infH hsz rfl rfl rfl ?_)
    refine (rwrong_any H w2 HO2.out.ok).mono ?_
    rintro e w3 ⟨rfl, hb3⟩
    have hwr : wrongS H.hel = wrongS (helS xs) := by rw [HH.out]
    have HK3 := Lib.hid (HK.out.below hb3 hg2)
    have HR3 := Lib.hid (HR2.out.below hb3 HR2.out.lt)
    have HO3 := Lib.hid (HO2.out.below hb3)
    have HB3 := Lib.hid (HB2.out.trans (hb3.mono HB2.out.size))
    rw [hwr]
    clear hwr hb3 HK HR2 HO2 HB2
    by_cases hz : wrongS (helS xs) = 0
    · have HP := Lib.hid (parse_is hok hz)
      rw [hz]
      clear hz
      go_wp2_with (first
        | (refine go_ld (x := .tmp 4) 28 HK3.out undH rfl infH hsz rfl rfl rfl ?_)
        | (refine go_st 28 HR3.out infH (Hv.size rfl) hsz (Hv.one _) rfl rfl rfl rfl ?_))
      exact ret_two Try.results11 (setRow_blk HR3.out) undH rfl infH hsz rfl rfl ⟨H, by rw [HP.out]; rfl, zero_rowq HO3.out HR3.out (by unfold TW; decide) _, by rw [HP.out]; exact HH.out, setRow_below HB3.out (Nat.le_refl _) _⟩ rfl
    · have HP := Lib.hid (show parseS xs = (Hel.zero, wrongS (helS xs)) by rw [parseS, if_pos hok, if_neg hz])
      generalize wrongS (helS xs) = e at *
      have hz' : (e == (0 : Int)) = false := by simpa using hz
      have hz2 : (e != (0 : Int)) = true := by simpa using hz
      go_wp2_with (first
        | (refine go_bd0 28 _ builtH rfl rfl ?_)
        | (refine go_st 28 HR3.out infH (Hv.size rfl) (Hv.size rfl) (Hv.one _) rfl rfl rfl rfl ?_))
      exact ret_two Try.results11 (setRow_blk HR3.out) undH rfl infH (Hv.size rfl) rfl rfl ⟨Hv.zero, by rw [HP.out]; rfl, HOwq.zero _, by rw [HP.out]; rfl, setRow_below HB3.out (Nat.le_refl _) _⟩ rfl

theorem laidq_new {w : World} {H : Hv} (h : HOwq w H) : HAq ((w.alloc (.cells Hv.zero.C 28)).setRow w.heap.size H.C) w.heap.size H ∧ Below w.heap.size w ((w.alloc (.cells Hv.zero.C 28)).setRow w.heap.size H.C) :=
  ⟨⟨setRow_blk (Blk.new w 28 Hv.zero.C), zero_rowq (h.below ((Below.refl _ _).alloc (Nat.le_refl _) (.cells Hv.zero.C 28))) (Blk.new w 28 Hv.zero.C) (by unfold TW; decide) H.C⟩,
    setRow_below ((Below.refl _ _).alloc (Nat.le_refl _) _) (Nat.le_refl _) _⟩
/-- what the document's own Print answers -/
def RPrintPost (h : Hel) (w : World) (e : Ending) (w' : World) : Prop :=
  ∃ A n c, e = .returned (.tuple #[.slice A n c, .bool (printS h).2]) ∧ Src w' A n (printS h).1 ∧ Below w.heap.size w w'

set_option maxRecDepth 100000 in
set_option maxHeartbeats 2000000 in
theorem rprint_any (H : Hv) (w : World) (hH : H.Ok w) (hw : weigh H ≤ 5000) (h60 : H.xs.length ≤ 60) :
    Calls Try.prog 15 #[.agg H.C] w (RPrintPost H.hel w) := by
  have HH := Lib.hid hH
  have hr := hH.rnd
  clear hH
  go_enter Try.func15, Try.ntmps15
  go_upto_region 1 with fail
  have HK := Lib.hid (Blk.new w 28 H.C)
  have HB := Lib.hid ((Below.refl w.heap.size w).alloc (Nat.le_refl _) (.cells H.C 28))
  generalize w.alloc (.cells H.C 28) = w1 at *
  obtain ⟨g, hg⟩ : ∃ g, g = w.heap.size := ⟨_, rfl⟩
  rw [← hg]
  rw [← hg] at HK
  clear hg
  go_wp2_with (refine go_ld (x := .tmp 1) 28 HK.out undH rfl infH (Hv.size hr) rfl rfl rfl ?_)
  refine (rlay_any H w1 (HH.out.below HB.out) hw h60).mono ?_
  rintro e w2 ⟨A2, n2, d2, rfl, hl2, hn2, hb⟩
  replace HK := Lib.hid (HK.out.below hb HK.out.lt)
  replace HB := Lib.hid (HB.out.trans (hb.mono HB.out.size))
  have HL2 := Lib.hid hl2
  clear hb hl2 w1 hw h60
  go_wp2_with fail
  refine (rparse_any A2 n2 d2 (layR H.hel) w2 HL2.out.src (by omega) HL2.out.nc HL2.out.cap).mono ?_
  rintro e w3 ⟨H5, rfl, ho, hh, hb⟩
  replace HK := Lib.hid (HK.out.below hb HK.out.lt)
  replace HB := Lib.hid (HB.out.trans (hb.mono HB.out.size))
  have HL3 := Lib.hid (HL2.out.below hb)
  have HO5 := Lib.hid ho
  have HE5 := Lib.hid hh
  have hr5 := ho.rnd
  clear hb ho hh HL2
  obtain ⟨z, hz⟩ : ∃ z, z = (parseS (layR H.hel)).2 := ⟨_, rfl⟩
  rw [← hz]
  have HZ := Lib.hid hz
  clear hz
  go_upto_region 3 with (refine go_st 28 (Blk.new _ _ _) infH rfl (Hv.size hr5) (Hv.one _) rfl rfl rfl rfl ?_)
  rw [← zeroC]
  obtain ⟨la, hb⟩ := laidq_new HO5.out
  replace HK := Lib.hid (HK.out.below hb HK.out.lt)
  replace HB := Lib.hid (HB.out.trans (hb.mono HB.out.size))
  have HL4 := Lib.hid (HL3.out.below hb)
  have HA5 := Lib.hid la
  clear la hb HO5 HL3
  generalize (w3.alloc (.cells Hv.zero.C 28)).setRow w3.heap.size H5.C = w4 at *
  generalize w3.heap.size = g5 at *
  clear w3 w2
  have HT := Lib.hid (lay_told (h := H.hel) hr)
  have HPr := Lib.hid (print_right (h := H.hel) hr)
  by_cases hz0 : z = 0
  · subst hz0
    by_cases hright : Right H.hel
    · have HY := Lib.hid (show H5.hel = H.hel from HE5.out.trans (HT.out.2 hright).2)
      have HP := Lib.hid (show printS H.hel = (layR H.hel, true) by rw [HPr.out.2.1 hright, layR_is hright hr])
      clear hright HT HPr HE5 HZ
      go_wp2_with (first
        | (refine go_ld (x := .tmp 5) 28 HA5.out.blk undH rfl infH (Hv.size hr5) (by rfl) rfl rfl ?_)
        | (refine go_ld (x := .tmp 1) 28 HK.out undH rfl infH (Hv.size hr) (by rfl) rfl rfl ?_)
        | (go_at_call 12; refine (same_any H5 H w4 HA5.out.own.ok (HH.out.below HB.out)).mono ?_; rintro e w5 ⟨R, rfl, hR, hb⟩; obtain rfl : R = true := hR.2 HY.out
           have HB5 := Lib.hid (HB.out.trans (hb.mono HB.out.size)); have HL5 := Lib.hid (HL4.out.below hb); clear hR hb))
      go_ret2
      exact ⟨A2, n2, d2, by rw [HP.out]; rfl, by rw [HP.out]; exact HL5.out.src, HB5.out⟩
    · have HN := Lib.hid (show ¬ H5.hel = H.hel from fun e => hright (HT.out.1 ⟨HZ.out.symm, HE5.out.symm.trans e⟩))
      have HP := Lib.hid (HPr.out.2.2 hright)
      clear hright HT HPr HE5 HZ
      go_wp2_with (first
        | (refine go_ld (x := .tmp 5) 28 HA5.out.blk undH rfl infH (Hv.size hr5) (by rfl) rfl rfl ?_)
        | (refine go_ld (x := .tmp 1) 28 HK.out undH rfl infH (Hv.size hr) (by rfl) rfl rfl ?_)
        | (go_at_call 12; refine (same_any H5 H w4 HA5.out.own.ok (HH.out.below HB.out)).mono ?_; rintro e w5 ⟨R, rfl, hR, hb⟩; obtain rfl : R = false := Bool.eq_false_iff.2 (fun h => HN.out (hR.1 h))
           have HB5 := Lib.hid (HB.out.trans (hb.mono HB.out.size)); clear hR hb))
      go_ret2
      exact ⟨none, 0, 0, by rw [HP.out]; rfl, by rw [HP.out]; exact Src.nil _, HB5.out⟩
  · have hz1 : (z != 0) = true := by simpa using hz0
    have HP := Lib.hid (HPr.out.2.2 (fun r => hz0 (HZ.out.trans (HT.out.2 r).1)))
    clear HT HPr HE5 HZ
    go_wp2_with fail
    go_ret2
    exact ⟨none, 0, 0, by rw [HP.out]; rfl, by rw [HP.out]; exact Src.nil _, HB.out⟩
end Go.Proofs.Ytpnidmegeimboaa.He
