/-
  Contract of package exts' See over this seat's translation.
-/
import Derived.Test.YtajmdchidmamcaaExFdA
import Derived.Test.YtajmdchidmamcaaExFdB
import Derived.Test.YtajmdchidmamcaaExFdC
import Derived.Test.YtajmdchidmamcaaExOr
namespace Go.Proofs.Ytajmdchidmamcaa.Ex
open Go.RowKit Go.Proofs.Ytajmdchidmamcaa.Wd Go.Proofs.Ytajmdchidmamcaa.Be Go.Proofs.Ytajmdchidmamcaa.He Go.Proofs.Ytajmdchidmamcaa.Ro

/-- what is seen -/
structure Sn where
  has : Bool
  name : List UInt8
  alpn : List (List UInt8)
  vers : List Int
  ech : Bool
def Sn.zero : Sn := ⟨false, [], [], [], false⟩
/-- the three errors -/
def errS (L : List (Int × List UInt8)) : List Int := [(fdS nameS (findL L 0)).2, (fdS protoS (findL L 16)).2, (fdS verS (findL L 43)).2]
def seeS (L : List (Int × List UInt8)) : Sn × Int :=
  if orL (errS L) = 0 then (⟨(findL L 0).2, (fdS nameS (findL L 0)).1, (fdS protoS (findL L 16)).1, (fdS verS (findL L 43)).1, (findL L 65037).2⟩, 0) else (Sn.zero, orL (errS L))
/-- it as it lies in memory -/
def snC (s : Sn) (va vv : Value) : Array Value := #[.bool s.has, .string (str8 s.name), va, vv, .bool s.ech]
def SeeP (p : Sn × Int) (w : World) (e : Ending) (w' : World) : Prop :=
  ∃ va vv, e = .returned (.tuple #[.agg (snC p.1 va vv), .int .i64 p.2]) ∧ RelP w' w.heap.size va p.1.alpn ∧ RelV w' w.heap.size vv p.1.vers ∧ Below w.heap.size w w'
theorem undS : Try.prog.underlying 47 = some (.struct (Try.prog.fieldsOf 47)) := by kernel_rfl
theorem infS : (Try.prog.info? 47).map (·.size) = some 5 := by kernel_rfl
theorem RelP.below {w w' : World} {B : Nat} {v : Value} {l : List (List UInt8)} (h : RelP w B v l) (hb : Below w.heap.size w w') : RelP w' B v l := ⟨h.1.below hb, h.2⟩
theorem RelV.below {w w' : World} {B : Nat} {v : Value} {l : List Int} (h : RelV w B v l) (hb : Below w.heap.size w w') : RelV w' B v l := ⟨h.1.below hb, h.2⟩
theorem RelP.lower {w : World} {B B' : Nat} {v : Value} {l : List (List UInt8)} (h : RelP w B v l) (hB : B' ≤ B) : RelP w B' v l := ⟨h.1.lower hB, h.2⟩
theorem RelV.lower {w : World} {B B' : Nat} {v : Value} {l : List Int} (h : RelV w B v l) (hB : B' ≤ B) : RelV w B' v l := ⟨h.1.lower hB, h.2⟩
theorem RelP.off {w w' : World} {B : Nat} {v : Value} {l : List (List UInt8)} {row : Option Nat} (h : RelP w B v l) (hb : w.grownBy w' row) (hr : OffT w row (· = 9)) : RelP w' B v l := ⟨h.1.off hb hr, h.2⟩
theorem RelV.off {w w' : World} {B : Nat} {v : Value} {l : List Int} {row : Option Nat} (h : RelV w B v l) (hb : w.grownBy w' row) (hr : OffT w row (· = 3)) : RelV w' B v l := ⟨h.1.off hb hr, h.2⟩
theorem set5 (a b c d e x0 x1 x2 x3 x4 : Value) : (((((#[a, b, c, d, e] : Array Value).setIfInBounds 0 x0).setIfInBounds 1 x1).setIfInBounds 2 x2).setIfInBounds 3 x3).setIfInBounds 4 x4 = #[x0, x1, x2, x3, x4] := by simp
/-- five cells stored, one behind the other -/
theorem five (w : World) (g : Nat) (t : TypeId) (a b c d e x0 x1 x2 x3 x4 : Value) (h : Blk w g t #[a, b, c, d, e]) :
    Blk (((((w.setCell ⟨g, 0, none⟩ x0).setCell ⟨g, 1, none⟩ x1).setCell ⟨g, 2, none⟩ x2).setCell ⟨g, 3, none⟩ x3).setCell ⟨g, 4, none⟩ x4) g t #[x0, x1, x2, x3, x4] ∧
    w.grownBy (((((w.setCell ⟨g, 0, none⟩ x0).setCell ⟨g, 1, none⟩ x1).setCell ⟨g, 2, none⟩ x2).setCell ⟨g, 3, none⟩ x3).setCell ⟨g, 4, none⟩ x4) (some g) := by
  constructor
  · have := ((((h.set_ 0 x0).set_ 1 x1).set_ 2 x2).set_ 3 x3).set_ 4 x4
    rwa [set5] at this
  · exact only_setCell (p := ⟨g, 4, none⟩) (only_setCell (p := ⟨g, 3, none⟩) (only_setCell (p := ⟨g, 2, none⟩) (only_setCell (p := ⟨g, 1, none⟩) (only_setCell (p := ⟨g, 0, none⟩) (only_refl w _) (.inl rfl) _) (.inl rfl) _) (.inl rfl) _) (.inl rfl) _) (.inl rfl) _

set_option maxRecDepth 100000 in
set_option maxHeartbeats 2000000 in
theorem see_any (H : Hv) (w : World) (hH : H.Ok w) :
    Calls Try.prog 25 #[.agg H.C] w (SeeP (seeS H.hel.exts) w) := by
  have hr := hH.rnd
  have HH := Lib.hid hH
  have hR : seeS H.hel.exts = if orL (errS H.hel.exts) = 0 then (⟨(findL H.hel.exts 0).2, (fdS nameS (findL H.hel.exts 0)).1, (fdS protoS (findL H.hel.exts 16)).1, (fdS verS (findL H.hel.exts 43)).1, (findL H.hel.exts 65037).2⟩, 0) else (Sn.zero, orL (errS H.hel.exts)) := rfl
  have hE : errS H.hel.exts = [(fdS nameS (findL H.hel.exts 0)).2, (fdS protoS (findL H.hel.exts 16)).2, (fdS verS (findL H.hel.exts 43)).2] := rfl
  rw [hE] at hR
  obtain ⟨q, hq⟩ : ∃ q, seeS H.hel.exts = q := ⟨_, rfl⟩
  rw [hq] at hR ⊢
  obtain ⟨a1, a2, a3, ha1, ha2, ha3⟩ : ∃ a b c, (findL H.hel.exts 0).2 = a ∧ (fdS nameS (findL H.hel.exts 0)).1 = b ∧ (fdS nameS (findL H.hel.exts 0)).2 = c := ⟨_, _, _, rfl, rfl, rfl⟩
  obtain ⟨b1, b2, b3, hB1, hB2, hB3⟩ : ∃ a b c, (findL H.hel.exts 16).2 = a ∧ (fdS protoS (findL H.hel.exts 16)).1 = b ∧ (fdS protoS (findL H.hel.exts 16)).2 = c := ⟨_, _, _, rfl, rfl, rfl⟩
  obtain ⟨c1, c2, c3, hC1, hC2, hC3⟩ : ∃ a b c, (findL H.hel.exts 43).2 = a ∧ (fdS verS (findL H.hel.exts 43)).1 = b ∧ (fdS verS (findL H.hel.exts 43)).2 = c := ⟨_, _, _, rfl, rfl, rfl⟩
  obtain ⟨d1, hD1⟩ : ∃ a, (findL H.hel.exts 65037).2 = a := ⟨_, rfl⟩
  rw [ha1, ha2, ha3, hB2, hB3, hC2, hC3, hD1] at hR
  have FA := fun w h => fdN_any H 0 w h
  have FB := fun w h => fdP_any H 16 w h
  have FC := fun w h => fdV_any H 43 w h
  rw [ha1, ha2, ha3] at FA
  rw [hB1, hB2, hB3] at FB
  rw [hC1, hC2, hC3] at FC
  have GA := Lib.hid FA
  have GB := Lib.hid FB
  have GC := Lib.hid FC
  have HR := Lib.hid hR
  have HD1 := Lib.hid hD1
  clear hH FA FB FC hR hE hq ha1 ha2 ha3 hB1 hB2 hB3 hC1 hC2 hC3 hD1
  go_enter Try.func25, Try.ntmps25
  go_upto_region 1 with fail
  have hb0 := (Blk.new w 44 H.C).alloc (.cells #[.bool false, .string ⟨#[]⟩, .slice none 0 0, .slice none 0 0, .bool false] 47)
  have HS0 := Lib.hid (blk_at (w.alloc (.cells H.C 44)) 47 #[.bool false, .string ⟨#[]⟩, .slice none 0 0, .slice none 0 0, .bool false] _ (w.heap.size + 1) (by rw [alloc_size]) rfl)
  have HB0 := Lib.hid (((Below.refl w.heap.size w).alloc (Nat.le_refl _) (.cells H.C 44)).alloc (by simp) (.cells #[.bool false, .string ⟨#[]⟩, .slice none 0 0, .slice none 0 0, .bool false] 47))
  generalize (w.alloc (.cells H.C 44)).alloc (.cells #[.bool false, .string ⟨#[]⟩, .slice none 0 0, .slice none 0 0, .bool false] 47) = w0 at *
  go_wp2_with (refine go_ld 44 hb0 undH rfl infH (Hv.size hr) rfl rfl rfl ?_)
  refine (GA.out w0 (HH.out.below HB0.out)).mono ?_
  rintro e w1 ⟨v1, rfl, hv1, hbl⟩
  unfold RelN at hv1
  subst hv1
  have hb1 := hb0.below hbl hb0.lt
  have HS1 := Lib.hid (HS0.out.below hbl HS0.out.lt)
  have HB1 := Lib.hid (HB0.out.trans (hbl.mono HB0.out.size))
  clear hb0 hbl HS0 HB0 GA
  go_wp2_with (refine go_ld 44 hb1 undH rfl infH (Hv.size hr) rfl rfl rfl ?_)
  refine (GB.out w1 (HH.out.below HB1.out)).mono ?_
  rintro e w2 ⟨v2, rfl, hv2, hbl⟩
  have HV2 := Lib.hid (RelP.lower hv2 HB1.out.size)
  have hb2 := hb1.below hbl hb1.lt
  have HS2 := Lib.hid (HS1.out.below hbl HS1.out.lt)
  have HB2 := Lib.hid (HB1.out.trans (hbl.mono HB1.out.size))
  clear hb1 hbl HS1 HB1 GB hv2
  go_wp2_with (refine go_ld 44 hb2 undH rfl infH (Hv.size hr) rfl rfl rfl ?_)
  refine (GC.out w2 (HH.out.below HB2.out)).mono ?_
  rintro e w3 ⟨v3, rfl, hv3, hbl⟩
  have HV2' := Lib.hid (HV2.out.below hbl)
  have HV3 := Lib.hid (RelV.lower hv3 HB2.out.size)
  have hb3 := hb2.below hbl hb2.lt
  have HS3 := Lib.hid (HS2.out.below hbl HS2.out.lt)
  have HB3 := Lib.hid (HB2.out.trans (hbl.mono HB2.out.size))
  clear hb2 hbl HS2 HB2 GC hv3 HV2
  have HK := Lib.hid (show ∀ (k : Nat) (x : Int), [a3, b3, c3][k]? = some x → (w3.alloc (.cells #[.int .i64 a3, .int .i64 b3, .int .i64 c3] 24)).cell? ⟨w3.heap.size, k, none⟩ = some (.int .i64 x) from fun k x hx => by
    rw [(Blk.new w3 24 #[.int .i64 a3, .int .i64 b3, .int .i64 c3]).cell]
    match k, hx with
    | 0, hx => injection hx with hx; subst hx; rfl
    | 1, hx => injection hx with hx; subst hx; rfl
    | 2, hx => injection hx with hx; subst hx; rfl
    | k + 3, hx => simp at hx)
  have HA3 := Lib.hid ((Below.refl w3.heap.size w3).alloc (Nat.le_refl _) (.cells #[.int .i64 a3, .int .i64 b3, .int .i64 c3] 24))
  go_wp2_with fail
  refine (or_any [a3, b3, c3] w3.heap.size 3 3 _ rfl (by omega) HK.out).mono ?_
  rintro e w4 ⟨rfl, hbl⟩
  have hbl := HA3.out.trans (hbl.out.mono HA3.out.size)
  have HV2 := Lib.hid (HV2'.out.below hbl)
  have HV3' := Lib.hid (HV3.out.below hbl)
  have hb4 := hb3.below hbl hb3.lt
  have HS4 := Lib.hid (HS3.out.below hbl HS3.out.lt)
  have HB4 := Lib.hid (HB3.out.trans (hbl.mono HB3.out.size))
  clear hb3 hbl HS3 HB3 HK HA3 HV2' HV3
  obtain ⟨E, hE⟩ : ∃ E, orL [a3, b3, c3] = E := ⟨_, rfl⟩
  rw [hE] at HR ⊢
  clear hE
  by_cases h0 : E = 0
  · have HF := Lib.hid (show q = (⟨a1, a2, b2, c2, d1⟩, 0) by rw [HR.out, if_pos h0])
    have hb : (E != 0) = false := by simp [h0]
    have hdz : decide (E = 0) = true := by simp [h0]
    clear h0 HR
    go_wp2_with (refine go_ld 44 hb4 undH rfl infH (Hv.size hr) rfl rfl rfl ?_)
    refine (find_any H 65037 w4 (HH.out.below HB4.out)).mono ?_
    rintro e w5 ⟨v5, rfl, _, hbl⟩
    rw [HD1.out]
    have HV2' := Lib.hid (HV2.out.below hbl)
    have HV3 := Lib.hid (HV3'.out.below hbl)
    have HS5 := Lib.hid (HS4.out.below hbl HS4.out.lt)
    have HB5 := Lib.hid (HB4.out.trans (hbl.mono HB4.out.size))
    clear hb4 hbl HS4 HB4 HV2 HV3'
    obtain ⟨Al, cl, rfl⟩ := OwnE.form HV2'.out.1
    obtain ⟨Av, cv, rfl⟩ := OwnE.form HV3.out.1
    have hk0 := HS5.out.cell 0
    have hk1 := HS5.out.cell 1
    have hk2 := HS5.out.cell 2
    have hk3 := HS5.out.cell 3
    have hk4 := HS5.out.cell 4
    have hf0 := HS5.out.frozen 0
    have hf1 := HS5.out.frozen 1
    have hf2 := HS5.out.frozen 2
    have hf3 := HS5.out.frozen 3
    have hf4 := HS5.out.frozen 4
    go_wp2_with fail
    obtain ⟨hbk, hgr⟩ := five w5 (w.heap.size + 1) 47 _ _ _ _ _ (.bool a1) (.string (str8 a2)) (.slice Al b2.length cl) (.slice Av c2.length cv) (.bool d1) HS5.out
    refine ret_two Try.results25 hbk undS rfl infS rfl rfl rfl ?_ rfl
    rw [HF.out]
    exact ⟨_, _, rfl, HV2'.out.off hgr (OffT.of_blk HS5.out (by decide)), HV3.out.off hgr (OffT.of_blk HS5.out (by decide)), HB5.out.grown hgr HB5.out.size (fun j hj => by injection hj with hj; omega)⟩
  · have HF := Lib.hid (show q = (Sn.zero, E) by rw [HR.out, if_neg h0])
    have hb : (E != 0) = true := by simp [h0]
    have hdz : decide (E = 0) = false := by simp [h0]
    clear h0 HR hb4 HV2 HV3'
    have hk0 := HS4.out.cell 0
    have hk1 := HS4.out.cell 1
    have hk2 := HS4.out.cell 2
    have hk3 := HS4.out.cell 3
    have hk4 := HS4.out.cell 4
    have hf0 := HS4.out.frozen 0
    have hf1 := HS4.out.frozen 1
    have hf2 := HS4.out.frozen 2
    have hf3 := HS4.out.frozen 3
    have hf4 := HS4.out.frozen 4
    go_wp2_with fail
    obtain ⟨hbk, hgr⟩ := five w4 (w.heap.size + 1) 47 _ _ _ _ _ (.bool false) (.string ⟨#[]⟩) (.slice none 0 0) (.slice none 0 0) (.bool false) HS4.out
    refine ret_two Try.results25 hbk undS rfl infS rfl rfl rfl ?_ rfl
    rw [HF.out]
    exact ⟨_, _, rfl, ⟨OwnE.nil _ _ _, Nat.zero_le _⟩, ⟨OwnE.nil _ _ _, Nat.zero_le _⟩, HB4.out.grown hgr HB4.out.size (fun j hj => by injection hj with hj; omega)⟩
end Go.Proofs.Ytajmdchidmamcaa.Ex
