/-
 law15's small case over this seat's translation.
-/
import Derived.Test.YthfknndjdfofgaaGreatDoorQ47
import Derived.Test.YthfknndjdfofgaaGreatDoorQ49
import Derived.Test.YthfknndjdfofgaaGreatDoorQ01
import Derived.ProofKit
import Derived.OpenShut
import Derived.ShutString
import Derived.ChangeOld
import Derived.Test.YthfknndjdfofgaaGreatDoorQ11
import Derived.LaidMore
import Derived.MakeChecks
import Derived.Stop.LaidErr
import Derived.Lib.LaidTab
import Derived.Shelf.Vars
import Derived.HandedShaped
import Derived.Lay
namespace Go.Proofs.YthfknndjdfofgaaGreatDoor.Tp
open Go.RowKit Go.Proofs.YthfknndjdfofgaaGreatDoor.Wd Go.Proofs.YthfknndjdfofgaaGreatDoor.Rc Go.Proofs.YthfknndjdfofgaaGreatDoor.Sh

theorem small_d : Ex.layS Ex.putN 2 [[65, 46, 98]] = some [0, 6, 0, 0, 3, 65, 46, 98] := by kernel_rfl
theorem small_p : Ex.layS Ex.putP 2 [[104, 50]] = some [0, 3, 2, 104, 50] := by kernel_rfl
theorem small_n : Nm.normalS [65, 46, 98] = ([97, 46, 98], 0) := by kernel_rfl
theorem small_fs : ∃ (fs : List UInt8) (n k : Nat), frameS (sizeK 20) (wrapS (He.layS (helB [0, 6, 0, 0, 3, 65, 46, 98] [0, 3, 2, 104, 50]))) = fs ∧ fs.length = n ∧ n = k + 1 ∧ n ≤ 100000 ∧ (∃ d m, allT fs = ⟨d, m, 1, n, 0, [97, 46, 98], ⟨true, [65, 46, 98], [[104, 50]], [], false⟩⟩) ∧ ∃ d m, allT (fs.take k) = ⟨d, m, 0, k, 0, [], Ex.Sn.zero⟩ := by
 have hk := (Rc.sizeK_eq 20).2
 obtain ⟨e, m, h⟩ := sizes_known small_d small_p (by decide) (by decide) (Rc.sizeK 20) hk
 rw [small_n, if_neg (by simp)] at h
 have hl := Rc.frameS_le (Rc.sizeK 20) hk (Sh.wrapS (He.layS (helB [0, 6, 0, 0, 3, 65, 46, 98] [0, 3, 2, 104, 50])))
 rw [Sh.wrapS_len, hel_len] at hl
 obtain ⟨fs, hfs⟩ : ∃ fs, frameS (sizeK 20) (wrapS (He.layS (helB [0, 6, 0, 0, 3, 65, 46, 98] [0, 3, 2, 104, 50]))) = fs := ⟨_, rfl⟩
 rw [hfs] at h hl
 have hz : (allT fs).z ≠ 0 := by rw [h]; show 1 ≠ 0; decide
 obtain ⟨h1, h2, h3, _⟩ := known hz
 have hu : (allT fs).u = fs.length := by rw [h]
 rw [hu] at h1 h3
 refine ⟨fs, fs.length, fs.length - 1, hfs, rfl, by omega, ?_, ⟨e, m, h⟩, ?_⟩
 · have : ([0, 6, 0, 0, 3, 65, 46, 98] : List UInt8).length = 8 := rfl
   have : ([0, 3, 2, 104, 50] : List UInt8).length = 5 := rfl
   omega
 · obtain ⟨t, ht⟩ : ∃ t, allT (fs.take (fs.length - 1)) = t := ⟨_, rfl⟩
   have hok := allT_ok (fs.take (fs.length - 1))
   have hu2 := allT_used h3
   rw [ht] at h3 hok hu2
   rw [List.length_take] at hu2
   obtain ⟨hh, hs⟩ := hok.bare (by omega)
   have hr := (hok.op h3).2.2.2
   refine ⟨t.d, t.m, ht.trans ?_⟩
   cases t
   simp only at h3 hu2 hh hs hr ⊢
   subst h3 hh hs hr
   have : min (fs.length - 1) fs.length = fs.length - 1 := by omega
   rw [this] at hu2
   rw [hu2]
theorem small_w : ∃ d m, allT [23, 1] = ⟨d, m, 2, 1, 4, [], Ex.Sn.zero⟩ := ⟨_, _, rfl⟩
theorem small_t : ∃ d m d2 m2, stepT T.st 22 = ⟨d, m, 0, 1, 0, [], Ex.Sn.zero⟩ ∧ stepT ⟨d, m, 0, 1, 0, [], Ex.Sn.zero⟩ 4 = ⟨d2, m2, 2, 2, 5, [], Ex.Sn.zero⟩ ∧ stepT ⟨d2, m2, 2, 2, 5, [], Ex.Sn.zero⟩ 3 = ⟨d2, m2, 2, 2, 5, [], Ex.Sn.zero⟩ ∧ d.n ≤ 10 ∧ d2.n ≤ 10 := ⟨_, _, _, _, rfl, rfl, rfl, by decide, by decide⟩
theorem allP_of {xs : List UInt8} {w : World} {z u : Nat} {r : Int} {h : List UInt8} {s : Ex.Sn} (hT : ∃ d m, allT xs = ⟨d, m, z, u, r, h, s⟩) {e : Ending} {w' : World} (hP : AllP xs w e w') :
   ∃ va vv, e = .returned (.agg (vC (z : Int) 1 (u : Int) r (str8 h) s va vv)) ∧ Ex.RelP w' w.heap.size va s.alpn ∧ Ex.RelV w' w.heap.size vv s.vers ∧ Below w.heap.size w w' := by
 obtain ⟨d, m, hT⟩ := hT
 unfold AllP at hP
 rw [hT] at hP
 exact hP
theorem not_gS {g i : Nat} {S : List Nat} {K : Nat} (h : ∀ j ∈ g :: S, K ≤ j) (hi : i < K) : i ∉ g :: S := fun hm => by have := h i hm; omega

set_option linter.unusedSimpArgs false in
set_option maxRecDepth 100000 in
set_option maxHeartbeats 16000000 in
theorem small_any {B : Nat} (w : World) (hE : Ad.Env B w) : Calls Tryz.prog 8 #[] w fun e w' => e = .returned (.bool true) ∧ Below w.heap.size w w' := by
 obtain ⟨fs, nb, k, hfs, hlen, hnk, hnb, hT1, hT2⟩ := small_fs
 have HE := Lib.hid hE
 have HT1 := Lib.hid hT1
 have HT2 := Lib.hid hT2
 have HFs := Lib.hid hfs
 have HLen := Lib.hid hlen
 have e3 : (nb : Int) - 1 = (k : Int) := by omega
 have ev : ((nb : Int) == (nb : Int)) = true := beq_self_eq_true _
 have ew : ((k : Int) == (k : Int)) = true := beq_self_eq_true _
 have hkb : k ≤ nb := by omega
 have HNK := Lib.hid hnk
 have HS0 := Lib.hid (Ro.SrcE.new Ro.fineS w [[104, 50]] #[.string ⟨#[104, 50]⟩] rfl 9)
 have HL0 : Hid (Below w.heap.size w (w.alloc (.cells #[.string ⟨#[104, 50]⟩] 9))) := Lib.hid ((Below.refl _ _).alloc (Nat.le_refl _) _)
 clear hE hT1 hT2 hfs hlen hnk
 go_enter Tryz.func8, Tryz.ntmps8
 go_wp2_with fail
 generalize w.alloc (.cells #[.string ⟨#[104, 50]⟩] 9) = w1 at *
 refine (bytes_any [65, 46, 98] (some ⟨w.heap.size, 0, none⟩) 1 1 [[104, 50]] 20 [0, 6, 0, 0, 3, 65, 46, 98] [0, 3, 2, 104, 50] w1 (by decide) small_d small_p (by decide) (by decide) rfl HS0.out).mono ?_
 rintro e w2 ⟨v, rfl, ho, hb⟩
 rw [HFs.out] at ho
 obtain ⟨Ab, cb, rfl, hcb, hsb⟩ := Own.src ho
 rw [HLen.out] at hcb hsb ⊢
 have HS2 := Lib.hid hsb
 have HL2 := Lib.hid (HL0.out.trans (hb.mono HL0.out.size))
 clear ho hsb hb HS0 HL0 HFs HLen
 go_wp2_with fail
 refine (all_any (B := B) Ab nb cb fs w2 (HE.out.on HL2.out) HS2.out (by omega)).mono ?_
 rintro e w3 hP
 obtain ⟨va, vv, rfl, hA, hV, hb⟩ := allP_of HT1.out hP
 have HL3 := Lib.hid (HL2.out.trans (hb.mono HL2.out.size))
 have HS3 := Lib.hid (HS2.out.below hb)
 have HA3 := Lib.hid hA
 have HV3 := Lib.hid hV
 clear hP hA hV hb HL2 HS2
 obtain ⟨Av, cv, e1, _, _, hrow⟩ := HA3.out.1.src Ro.fineS
 subst e1
 obtain ⟨ga, oa, hAv, hga, hcr⟩ := hrow 0 [104, 50] rfl
 subst hAv
 have hcr0 : w3.cell? ⟨ga, oa + (0 * 1 + 0), none⟩ = some (.string ⟨#[104, 50]⟩) := hcr 0 _ rfl
 have HCr : Hid (w3.cell? ⟨ga, oa, none⟩ = some (.string ⟨#[104, 50]⟩)) := Lib.hid (by simpa using hcr0)
 clear hcr0
 have hga3 : ga < w3.heap.size := hga
 obtain ⟨Aw, cw, rfl⟩ := Ro.OwnE.form HV3.out.1
 clear hrow hga hcr HA3 HV3
 go_upto_region 3 with (refine He.go_st 31 (Blk.new _ _ _) infV rfl (vC_size _ _ _ _ _ _ _ _) (vC_one _ _ _ _ _ _ _ _ _ _ _ _) rfl rfl rfl rfl ?_)
 obtain ⟨hk, hb⟩ := verd_new w3 (vC (1 : Nat) 1 (nb : Int) 0 (str8 [97, 46, 98]) ⟨true, [65, 46, 98], [[104, 50]], [], false⟩ (.slice (some ⟨ga, oa, none⟩) 1 cv) (.slice Aw 0 cw))
 have HK4 := Lib.hid hk
 have HL4 := Lib.hid (HL3.out.trans (hb.mono HL3.out.size))
 have HS4 := Lib.hid ((HS3.out.below hb).take hkb)
 have HC4 := Lib.hid ((hb.cell (p := ⟨ga, oa, none⟩) hga3).trans HCr.out)
 have hga4 : ga < _ := Nat.lt_of_lt_of_le hga3 hb.size
 clear hk hb HL3 HS3 HCr hga3
 generalize (w3.alloc (.cells #[Value.int .i64 0, .int .i64 0, .int .i64 0, .int .i64 0, .string ⟨#[]⟩, .int .i64 0, .bool false, .string ⟨#[]⟩, .slice none 0 0, .slice none 0 0, .bool false] 31)).setRow w3.heap.size (vC (1 : Nat) 1 (nb : Int) 0 (str8 [97, 46, 98]) ⟨true, [65, 46, 98], [[104, 50]], [], false⟩ (.slice (some ⟨ga, oa, none⟩) 1 cv) (.slice Aw 0 cw)) = w4 at *
 obtain ⟨G1, hg1⟩ : ∃ g, w3.heap.size = g := ⟨_, rfl⟩
 rw [hg1] at HK4
 rw [hg1]
 clear hg1
 have hsl : ∀ w', (Instr.sliceAt 22 (.slice Ab nb cb) none (some (.int .i64 (k : Int))) none).run Tryz.prog w' = .ok (.slice Ab k cb) w' := fun w' => slice_to und8 siz8 Ab nb cb w' k (by omega)
 go_wp2_with fail
 refine (all_any (B := B) Ab k cb (fs.take k) w4 (HE.out.on HL4.out) HS4.out (by omega)).mono ?_
 rintro e w5 hP
 obtain ⟨vb, vu, rfl, hA, hV, hb⟩ := allP_of HT2.out hP
 have HL5 := Lib.hid (HL4.out.trans (hb.mono HL4.out.size))
 have HK5 := Lib.hid (HK4.out.below hb HK4.out.lt)
 have HC5 := Lib.hid ((hb.cell (p := ⟨ga, oa, none⟩) hga4).trans HC4.out)
 have hga5 : ga < w5.heap.size := Nat.lt_of_lt_of_le hga4 hb.size
 obtain ⟨A5, c5, rfl⟩ := Ro.OwnE.form hA.1
 obtain ⟨A6, c6, rfl⟩ := Ro.OwnE.form hV.1
 clear hP hA hV hb HL4 HK4 HC4 HS4 hga4 hsl
 go_upto_region 4 with (refine He.go_st 31 (Blk.new _ _ _) infV rfl (vC_size _ _ _ _ _ _ _ _) (vC_one _ _ _ _ _ _ _ _ _ _ _ _) rfl rfl rfl rfl ?_)
 obtain ⟨hk, hb⟩ := verd_new w5 (vC (0 : Nat) 1 (k : Int) 0 (str8 []) Ex.Sn.zero (.slice A5 Ex.Sn.zero.alpn.length c5) (.slice A6 Ex.Sn.zero.vers.length c6))
 have HJ6 := Lib.hid hk
 have HK6 := Lib.hid (HK5.out.below hb HK5.out.lt)
 have HL6 := Lib.hid (HL5.out.trans (hb.mono HL5.out.size))
 have HC6 := Lib.hid ((hb.cell (p := ⟨ga, oa, none⟩) hga5).trans HC5.out)
 have hga6 : ga < _ := Nat.lt_of_lt_of_le hga5 hb.size
 clear hk hb HL5 HK5 HC5 hga5
 generalize (w5.alloc (.cells #[Value.int .i64 0, .int .i64 0, .int .i64 0, .int .i64 0, .string ⟨#[]⟩, .int .i64 0, .bool false, .string ⟨#[]⟩, .slice none 0 0, .slice none 0 0, .bool false] 31)).setRow w5.heap.size (vC (0 : Nat) 1 (k : Int) 0 (str8 []) Ex.Sn.zero (.slice A5 Ex.Sn.zero.alpn.length c5) (.slice A6 Ex.Sn.zero.vers.length c6)) = w6 at *
 obtain ⟨G2, hg2⟩ : ∃ g, w5.heap.size = g := ⟨_, rfl⟩
 rw [hg2] at HJ6
 rw [hg2]
 clear hg2
 have HSw := Lib.hid (Src.marked w6 #[.int .u8 23, .int .u8 1] 5 (0, 0) [23, 1] rfl)
 have hbw : Below w6.heap.size w6 (w6.alloc (.cells #[.int .u8 23, .int .u8 1] 5)) := (Below.refl _ _).alloc (Nat.le_refl _) _
 have HLw := Lib.hid (HL6.out.trans (hbw.mono HL6.out.size))
 have HJw := Lib.hid (HJ6.out.below hbw HJ6.out.lt)
 have HKw := Lib.hid (HK6.out.below hbw HK6.out.lt)
 have HCw := Lib.hid ((hbw.cell (p := ⟨ga, oa, none⟩) hga6).trans HC6.out)
 have hgaw : ga < _ := Nat.lt_of_lt_of_le hga6 hbw.size
 clear hbw HL6 HJ6 HK6 HC6 hga6
 go_wp2_with fail
 generalize w6.alloc (.cells #[.int .u8 23, .int .u8 1] 5) = w7 at *
 refine (all_any (B := B) (some ⟨w6.heap.size, 0, none⟩) 2 2 [23, 1] w7 (HE.out.on HLw.out) HSw.out (by decide)).mono ?_
 rintro e w8 hP
 obtain ⟨vb, vu, rfl, hA, hV, hb⟩ := allP_of small_w hP
 have HL8 := Lib.hid (HLw.out.trans (hb.mono HLw.out.size))
 have HK8 := Lib.hid (HKw.out.below hb HKw.out.lt)
 have HJ8 := Lib.hid (HJw.out.below hb HJw.out.lt)
 have HC8 := Lib.hid ((hb.cell (p := ⟨ga, oa, none⟩) hgaw).trans HCw.out)
 have hga8 : ga < w8.heap.size := Nat.lt_of_lt_of_le hgaw hb.size
 obtain ⟨A7, c7, rfl⟩ := Ro.OwnE.form hA.1
 obtain ⟨A8, c8, rfl⟩ := Ro.OwnE.form hV.1
 clear hP hA hV hb HLw HKw HJw HCw HSw hgaw
 go_upto_region 5 with (refine He.go_st 31 (Blk.new _ _ _) infV rfl (vC_size _ _ _ _ _ _ _ _) (vC_one _ _ _ _ _ _ _ _ _ _ _ _) rfl rfl rfl rfl ?_)
 obtain ⟨hk, hb⟩ := verd_new w8 (vC (2 : Nat) 1 (1 : Nat) 4 (str8 []) Ex.Sn.zero (.slice A7 Ex.Sn.zero.alpn.length c7) (.slice A8 Ex.Sn.zero.vers.length c8))
 have HI9 := Lib.hid hk
 have HJ9 := Lib.hid (HJ8.out.below hb HJ8.out.lt)
 have HK9 := Lib.hid (HK8.out.below hb HK8.out.lt)
 have HL9 := Lib.hid (HL8.out.trans (hb.mono HL8.out.size))
 have HC9 := Lib.hid ((hb.cell (p := ⟨ga, oa, none⟩) hga8).trans HC8.out)
 have hga9 : ga < _ := Nat.lt_of_lt_of_le hga8 hb.size
 clear hk hb HL8 HJ8 HK8 HC8 hga8
 generalize (w8.alloc (.cells #[Value.int .i64 0, .int .i64 0, .int .i64 0, .int .i64 0, .string ⟨#[]⟩, .int .i64 0, .bool false, .string ⟨#[]⟩, .slice none 0 0, .slice none 0 0, .bool false] 31)).setRow w8.heap.size (vC (2 : Nat) 1 (1 : Nat) 4 (str8 []) Ex.Sn.zero (.slice A7 Ex.Sn.zero.alpn.length c7) (.slice A8 Ex.Sn.zero.vers.length c8)) = w9 at *
 obtain ⟨G3, hg3⟩ : ∃ g, w8.heap.size = g := ⟨_, rfl⟩
 rw [hg3] at HI9
 rw [hg3]
 clear hg3
 go_wp2_with fail
 refine (new_any w9).mono ?_
 rintro e wa ⟨g, S, rfl, hP, hfar, hb⟩
 have HPa := Lib.hid hP
 have HIa := Lib.hid (HI9.out.below hb HI9.out.lt)
 have HJa := Lib.hid (HJ9.out.below hb HJ9.out.lt)
 have HKa := Lib.hid (HK9.out.below hb HK9.out.lt)
 have HLa := Lib.hid (HL9.out.trans (hb.mono HL9.out.size))
 have HCa := Lib.hid ((hb.cell (p := ⟨ga, oa, none⟩) hga9).trans HC9.out)
 have HFar := Lib.hid hfar
 obtain ⟨K0, hK0⟩ : ∃ K, w9.heap.size = K := ⟨_, rfl⟩
 have hB0 : w.heap.size ≤ K0 := by rw [← hK0]; exact HL9.out.size
 have hK0a : K0 ≤ wa.heap.size := by rw [← hK0]; exact hb.size
 have hE0 : B ≤ w.heap.size := HE.out.le
 have hG1 : G1 < K0 := by rw [← hK0]; exact HK9.out.lt
 have hG2 : G2 < K0 := by rw [← hK0]; exact HJ9.out.lt
 have hG3 : G3 < K0 := by rw [← hK0]; exact HI9.out.lt
 rw [hK0] at hga9 HFar
 clear hP hfar hb HI9 HJ9 HK9 HL9 HC9 hK0
 have k8 : wa.cell? ⟨G1, 8, none⟩ = some (.slice (some ⟨ga, oa, none⟩) 1 cv) := by rw [HKa.out.cell]; rfl
 go_wp2_with fail
 clear k8
 obtain ⟨d1, m1, d2, m2, q1, q2, q3, hd1, hd2⟩ := small_t
 have HQ1 := Lib.hid q1
 have HQ2 := Lib.hid q2
 have HQ3 := Lib.hid q3
 clear q1 q2 q3
 refine (take_any (E := B) (HE.out.on HLa.out) (fun i hi => by have := HFar.out i hi; omega) HPa.out (by decide) (by decide) 22).mono ?_
 rw [HQ1.out]
 rintro e wb ⟨S1, _, _, _, rfl, hP, hS, hB, _, _, _⟩
 have HPb := Lib.hid hP
 have hn1 := not_gS (i := G1) HFar.out hG1
 have hn2 := not_gS (i := G2) HFar.out hG2
 have hn3 := not_gS (i := G3) HFar.out hG3
 have hna := not_gS (i := ga) HFar.out hga9
 have HKb := Lib.hid (HKa.out.but hB hn1)
 have HJb := Lib.hid (HJa.out.but hB hn2)
 have HIb := Lib.hid (HIa.out.but hB hn3)
 have HCb := Lib.hid ((hB.cell (p := ⟨ga, oa, none⟩) (by show ga < _; omega) hna).trans HCa.out)
 have HLb := Lib.hid (HLa.out.trans (hB.below (fun i hi => Nat.le_trans hB0 (HFar.out i hi)) (Nat.le_trans hB0 hK0a)))
 have hK0b : K0 ≤ wb.heap.size := Nat.le_trans hK0a hB.size
 have HFar2 := Lib.hid (show ∀ i ∈ g :: S1, K0 ≤ i from fun i hi => by
   rcases List.mem_cons.1 hi with hi | hi
   · rw [hi]; exact HFar.out g (by simp)
   · rcases hS i hi with h | h
     · exact HFar.out i (List.mem_cons_of_mem _ h)
     · omega)
 clear hP hS hB hn1 hn2 hn3 hna HPa HKa HJa HIa HCa HLa HFar hK0a
 go_wp2_with fail
 refine (take_any (E := B) (HE.out.on HLb.out) (fun i hi => by have := HFar2.out i hi; omega) HPb.out (by show d1.n ≤ _; omega) (by show 1 ≤ 4611686018427387904; decide) 4).mono ?_
 rw [HQ2.out]
 rintro e wc ⟨S2, Kc, vb, vu, rfl, hP, hS, hB, hKc, hA, hV⟩
 have HFar := HFar2
 clear HFar2
 have HPc := Lib.hid hP
 have hn1 := not_gS (i := G1) HFar.out hG1
 have hn2 := not_gS (i := G2) HFar.out hG2
 have hn3 := not_gS (i := G3) HFar.out hG3
 have hna := not_gS (i := ga) HFar.out hga9
 have HKc := Lib.hid (HKb.out.but hB hn1)
 have HJc := Lib.hid (HJb.out.but hB hn2)
 have HIc := Lib.hid (HIb.out.but hB hn3)
 have HCc := Lib.hid ((hB.cell (p := ⟨ga, oa, none⟩) (by show ga < _; omega) hna).trans HCb.out)
 have HLc := Lib.hid (HLb.out.trans (hB.below (fun i hi => Nat.le_trans hB0 (HFar.out i hi)) (Nat.le_trans hB0 hK0b)))
 have hK0c : K0 ≤ wc.heap.size := Nat.le_trans hK0b hB.size
 have HFar2 := Lib.hid (show ∀ i ∈ g :: S2, K0 ≤ i from fun i hi => by
   rcases List.mem_cons.1 hi with hi | hi
   · rw [hi]; exact HFar.out g (by simp)
   · rcases hS i hi with h | h
     · exact HFar.out i (List.mem_cons_of_mem _ h)
     · omega)
 obtain ⟨A9, c9, rfl⟩ := Ro.OwnE.form hA.1
 obtain ⟨Aa, ca, rfl⟩ := Ro.OwnE.form hV.1
 clear hP hS hB hn1 hn2 hn3 hna HPb HKb HJb HIb HCb HLb HFar hK0b hA hV hKc
 go_upto_region 10 with (refine He.go_st 31 (Blk.new _ _ _) infV rfl (vC_size _ _ _ _ _ _ _ _) (vC_one _ _ _ _ _ _ _ _ _ _ _ _) rfl rfl rfl rfl ?_)
 obtain ⟨hk, hb⟩ := verd_new wc (vC (2 : Nat) 1 (2 : Nat) 5 (str8 []) Ex.Sn.zero (.slice A9 Ex.Sn.zero.alpn.length c9) (.slice Aa Ex.Sn.zero.vers.length ca))
 have HYd := Lib.hid hk
 have HId := Lib.hid (HIc.out.below hb HIc.out.lt)
 have HJd := Lib.hid (HJc.out.below hb HJc.out.lt)
 have HKd := Lib.hid (HKc.out.below hb HKc.out.lt)
 have HPd := Lib.hid (HPc.out.below hb)
 have HLd := Lib.hid (HLc.out.trans (hb.mono (Nat.le_trans hB0 hK0c)))
 have HCd := Lib.hid ((hb.cell (p := ⟨ga, oa, none⟩) (by show ga < _; omega)).trans HCc.out)
 have hK0d : K0 ≤ _ := Nat.le_trans hK0c hb.size
 have hny : ∀ j ∈ g :: S2, j ≠ wc.heap.size := fun j hj => by
   rcases List.mem_cons.1 hj with hj | hj
   · have := HPc.out.lt; omega
   · have := HPc.out.lts j hj; omega
 clear hk hb HIc HJc HKc HPc HLc HCc hK0c
 generalize (wc.alloc (.cells #[Value.int .i64 0, .int .i64 0, .int .i64 0, .int .i64 0, .string ⟨#[]⟩, .int .i64 0, .bool false, .string ⟨#[]⟩, .slice none 0 0, .slice none 0 0, .bool false] 31)).setRow wc.heap.size (vC (2 : Nat) 1 (2 : Nat) 5 (str8 []) Ex.Sn.zero (.slice A9 Ex.Sn.zero.alpn.length c9) (.slice Aa Ex.Sn.zero.vers.length ca)) = wd at *
 obtain ⟨G4, hg4⟩ : ∃ g, wc.heap.size = g := ⟨_, rfl⟩
 rw [hg4] at HYd hny
 rw [hg4]
 clear hg4
 go_wp2_with fail
 refine (take_any (E := B) (HE.out.on HLd.out) (fun i hi => by have := HFar2.out i hi; omega) HPd.out (by show d2.n ≤ _; omega) (by show 2 ≤ 4611686018427387904; decide) 3).mono ?_
 rw [HQ3.out]
 rintro e we ⟨S3, Ke, vb, vu, rfl, hP, hS, hB, hKe, hA, hV⟩
 have HFar := HFar2
 clear HFar2
 have hn4 : G4 ∉ g :: S2 := fun hm => hny _ hm rfl
 have HPe := Lib.hid hP
 have hn1 := not_gS (i := G1) HFar.out hG1
 have hn2 := not_gS (i := G2) HFar.out hG2
 have hn3 := not_gS (i := G3) HFar.out hG3
 have hna := not_gS (i := ga) HFar.out hga9
 have HKe := Lib.hid (HKd.out.but hB hn1)
 have HJe := Lib.hid (HJd.out.but hB hn2)
 have HIe := Lib.hid (HId.out.but hB hn3)
 have HYe := Lib.hid (HYd.out.but hB hn4)
 have HCe := Lib.hid ((hB.cell (p := ⟨ga, oa, none⟩) (by show ga < _; omega) hna).trans HCd.out)
 have HLe := Lib.hid (HLd.out.trans (hB.below (fun i hi => Nat.le_trans hB0 (HFar.out i hi)) (Nat.le_trans hB0 hK0d)))
 have hK0e : K0 ≤ we.heap.size := Nat.le_trans hK0d hB.size
 have HFar2 := Lib.hid (show ∀ i ∈ g :: S3, K0 ≤ i from fun i hi => by
   rcases List.mem_cons.1 hi with hi | hi
   · rw [hi]; exact HFar.out g (by simp)
   · rcases hS i hi with h | h
     · exact HFar.out i (List.mem_cons_of_mem _ h)
     · omega)
 obtain ⟨Ab2, cb2, rfl⟩ := Ro.OwnE.form hA.1
 obtain ⟨Ac2, cc2, rfl⟩ := Ro.OwnE.form hV.1
 clear hP hS hB hn1 hn2 hn3 hn4 hna HPd HKd HJd HId HCd HLd HYd HFar hK0d hA hV hKe hny
 obtain ⟨hk, hb⟩ := verd_new we (vC 2 1 2 5 (str8 []) Ex.Sn.zero (.slice Ab2 Ex.Sn.zero.alpn.length cb2) (.slice Ac2 Ex.Sn.zero.vers.length cc2))
 have HLf := Lib.hid (HLe.out.trans (hb.mono (Nat.le_trans hB0 hK0e)))
 have y3 : ((we.alloc (.cells #[Value.int .i64 0, .int .i64 0, .int .i64 0, .int .i64 0, .string ⟨#[]⟩, .int .i64 0, .bool false, .string ⟨#[]⟩, .slice none 0 0, .slice none 0 0, .bool false] 31)).setRow we.heap.size (vC 2 1 2 5 (str8 []) Ex.Sn.zero (.slice Ab2 Ex.Sn.zero.alpn.length cb2) (.slice Ac2 Ex.Sn.zero.vers.length cc2))).cell? ⟨G4, 3, none⟩ = some (.int .i64 5) := (hb.cell (p := ⟨G4, 3, none⟩) HYe.out.lt).trans (by rw [HYe.out.cell]; rfl)
 have i0 : ((we.alloc (.cells #[Value.int .i64 0, .int .i64 0, .int .i64 0, .int .i64 0, .string ⟨#[]⟩, .int .i64 0, .bool false, .string ⟨#[]⟩, .slice none 0 0, .slice none 0 0, .bool false] 31)).setRow we.heap.size (vC 2 1 2 5 (str8 []) Ex.Sn.zero (.slice Ab2 Ex.Sn.zero.alpn.length cb2) (.slice Ac2 Ex.Sn.zero.vers.length cc2))).cell? ⟨G3, 0, none⟩ = some (.int .i64 2) := (hb.cell (p := ⟨G3, 0, none⟩) HIe.out.lt).trans (by rw [HIe.out.cell]; rfl)
 have i3 : ((we.alloc (.cells #[Value.int .i64 0, .int .i64 0, .int .i64 0, .int .i64 0, .string ⟨#[]⟩, .int .i64 0, .bool false, .string ⟨#[]⟩, .slice none 0 0, .slice none 0 0, .bool false] 31)).setRow we.heap.size (vC 2 1 2 5 (str8 []) Ex.Sn.zero (.slice Ab2 Ex.Sn.zero.alpn.length cb2) (.slice Ac2 Ex.Sn.zero.vers.length cc2))).cell? ⟨G3, 3, none⟩ = some (.int .i64 4) := (hb.cell (p := ⟨G3, 3, none⟩) HIe.out.lt).trans (by rw [HIe.out.cell]; rfl)
 have i2 : ((we.alloc (.cells #[Value.int .i64 0, .int .i64 0, .int .i64 0, .int .i64 0, .string ⟨#[]⟩, .int .i64 0, .bool false, .string ⟨#[]⟩, .slice none 0 0, .slice none 0 0, .bool false] 31)).setRow we.heap.size (vC 2 1 2 5 (str8 []) Ex.Sn.zero (.slice Ab2 Ex.Sn.zero.alpn.length cb2) (.slice Ac2 Ex.Sn.zero.vers.length cc2))).cell? ⟨G3, 2, none⟩ = some (.int .i64 1) := (hb.cell (p := ⟨G3, 2, none⟩) HIe.out.lt).trans (by rw [HIe.out.cell]; rfl)
 have j0 : ((we.alloc (.cells #[Value.int .i64 0, .int .i64 0, .int .i64 0, .int .i64 0, .string ⟨#[]⟩, .int .i64 0, .bool false, .string ⟨#[]⟩, .slice none 0 0, .slice none 0 0, .bool false] 31)).setRow we.heap.size (vC 2 1 2 5 (str8 []) Ex.Sn.zero (.slice Ab2 Ex.Sn.zero.alpn.length cb2) (.slice Ac2 Ex.Sn.zero.vers.length cc2))).cell? ⟨G2, 0, none⟩ = some (.int .i64 0) := (hb.cell (p := ⟨G2, 0, none⟩) HJe.out.lt).trans (by rw [HJe.out.cell]; rfl)
 have j2 : ((we.alloc (.cells #[Value.int .i64 0, .int .i64 0, .int .i64 0, .int .i64 0, .string ⟨#[]⟩, .int .i64 0, .bool false, .string ⟨#[]⟩, .slice none 0 0, .slice none 0 0, .bool false] 31)).setRow we.heap.size (vC 2 1 2 5 (str8 []) Ex.Sn.zero (.slice Ab2 Ex.Sn.zero.alpn.length cb2) (.slice Ac2 Ex.Sn.zero.vers.length cc2))).cell? ⟨G2, 2, none⟩ = some (.int .i64 (k : Int)) := (hb.cell (p := ⟨G2, 2, none⟩) HJe.out.lt).trans (by rw [HJe.out.cell]; rfl)
 have k0 : ((we.alloc (.cells #[Value.int .i64 0, .int .i64 0, .int .i64 0, .int .i64 0, .string ⟨#[]⟩, .int .i64 0, .bool false, .string ⟨#[]⟩, .slice none 0 0, .slice none 0 0, .bool false] 31)).setRow we.heap.size (vC 2 1 2 5 (str8 []) Ex.Sn.zero (.slice Ab2 Ex.Sn.zero.alpn.length cb2) (.slice Ac2 Ex.Sn.zero.vers.length cc2))).cell? ⟨G1, 0, none⟩ = some (.int .i64 1) := (hb.cell (p := ⟨G1, 0, none⟩) HKe.out.lt).trans (by rw [HKe.out.cell]; rfl)
 have k1 : ((we.alloc (.cells #[Value.int .i64 0, .int .i64 0, .int .i64 0, .int .i64 0, .string ⟨#[]⟩, .int .i64 0, .bool false, .string ⟨#[]⟩, .slice none 0 0, .slice none 0 0, .bool false] 31)).setRow we.heap.size (vC 2 1 2 5 (str8 []) Ex.Sn.zero (.slice Ab2 Ex.Sn.zero.alpn.length cb2) (.slice Ac2 Ex.Sn.zero.vers.length cc2))).cell? ⟨G1, 1, none⟩ = some (.int .i64 1) := (hb.cell (p := ⟨G1, 1, none⟩) HKe.out.lt).trans (by rw [HKe.out.cell]; rfl)
 have k2 : ((we.alloc (.cells #[Value.int .i64 0, .int .i64 0, .int .i64 0, .int .i64 0, .string ⟨#[]⟩, .int .i64 0, .bool false, .string ⟨#[]⟩, .slice none 0 0, .slice none 0 0, .bool false] 31)).setRow we.heap.size (vC 2 1 2 5 (str8 []) Ex.Sn.zero (.slice Ab2 Ex.Sn.zero.alpn.length cb2) (.slice Ac2 Ex.Sn.zero.vers.length cc2))).cell? ⟨G1, 2, none⟩ = some (.int .i64 (nb : Int)) := (hb.cell (p := ⟨G1, 2, none⟩) HKe.out.lt).trans (by rw [HKe.out.cell]; rfl)
 have k4 : ((we.alloc (.cells #[Value.int .i64 0, .int .i64 0, .int .i64 0, .int .i64 0, .string ⟨#[]⟩, .int .i64 0, .bool false, .string ⟨#[]⟩, .slice none 0 0, .slice none 0 0, .bool false] 31)).setRow we.heap.size (vC 2 1 2 5 (str8 []) Ex.Sn.zero (.slice Ab2 Ex.Sn.zero.alpn.length cb2) (.slice Ac2 Ex.Sn.zero.vers.length cc2))).cell? ⟨G1, 4, none⟩ = some (.string ⟨#[97, 46, 98]⟩) := (hb.cell (p := ⟨G1, 4, none⟩) HKe.out.lt).trans (by rw [HKe.out.cell]; rfl)
 have k7 : ((we.alloc (.cells #[Value.int .i64 0, .int .i64 0, .int .i64 0, .int .i64 0, .string ⟨#[]⟩, .int .i64 0, .bool false, .string ⟨#[]⟩, .slice none 0 0, .slice none 0 0, .bool false] 31)).setRow we.heap.size (vC 2 1 2 5 (str8 []) Ex.Sn.zero (.slice Ab2 Ex.Sn.zero.alpn.length cb2) (.slice Ac2 Ex.Sn.zero.vers.length cc2))).cell? ⟨G1, 7, none⟩ = some (.string ⟨#[65, 46, 98]⟩) := (hb.cell (p := ⟨G1, 7, none⟩) HKe.out.lt).trans (by rw [HKe.out.cell]; rfl)
 have k8 : ((we.alloc (.cells #[Value.int .i64 0, .int .i64 0, .int .i64 0, .int .i64 0, .string ⟨#[]⟩, .int .i64 0, .bool false, .string ⟨#[]⟩, .slice none 0 0, .slice none 0 0, .bool false] 31)).setRow we.heap.size (vC 2 1 2 5 (str8 []) Ex.Sn.zero (.slice Ab2 Ex.Sn.zero.alpn.length cb2) (.slice Ac2 Ex.Sn.zero.vers.length cc2))).cell? ⟨G1, 8, none⟩ = some (.slice (some ⟨ga, oa, none⟩) 1 cv) := (hb.cell (p := ⟨G1, 8, none⟩) HKe.out.lt).trans (by rw [HKe.out.cell]; rfl)
 have r0 : ((we.alloc (.cells #[Value.int .i64 0, .int .i64 0, .int .i64 0, .int .i64 0, .string ⟨#[]⟩, .int .i64 0, .bool false, .string ⟨#[]⟩, .slice none 0 0, .slice none 0 0, .bool false] 31)).setRow we.heap.size (vC 2 1 2 5 (str8 []) Ex.Sn.zero (.slice Ab2 Ex.Sn.zero.alpn.length cb2) (.slice Ac2 Ex.Sn.zero.vers.length cc2))).cell? ⟨ga, oa, none⟩ = some (.string ⟨#[104, 50]⟩) := (hb.cell (p := ⟨ga, oa, none⟩) (by show ga < _; omega)).trans HCe.out
 have z0 : ((we.alloc (.cells #[Value.int .i64 0, .int .i64 0, .int .i64 0, .int .i64 0, .string ⟨#[]⟩, .int .i64 0, .bool false, .string ⟨#[]⟩, .slice none 0 0, .slice none 0 0, .bool false] 31)).setRow we.heap.size (vC 2 1 2 5 (str8 []) Ex.Sn.zero (.slice Ab2 Ex.Sn.zero.alpn.length cb2) (.slice Ac2 Ex.Sn.zero.vers.length cc2))).cell? ⟨we.heap.size, 0, none⟩ = some (.int .i64 2) := by rw [hk.cell]; rfl
 have z2 : ((we.alloc (.cells #[Value.int .i64 0, .int .i64 0, .int .i64 0, .int .i64 0, .string ⟨#[]⟩, .int .i64 0, .bool false, .string ⟨#[]⟩, .slice none 0 0, .slice none 0 0, .bool false] 31)).setRow we.heap.size (vC 2 1 2 5 (str8 []) Ex.Sn.zero (.slice Ab2 Ex.Sn.zero.alpn.length cb2) (.slice Ac2 Ex.Sn.zero.vers.length cc2))).cell? ⟨we.heap.size, 2, none⟩ = some (.int .i64 2) := by rw [hk.cell]; rfl
 clear hk hb
 go_wp2_with (refine He.go_st 31 (Blk.new _ _ _) infV rfl (vC_size 2 1 2 5 (str8 []) Ex.Sn.zero (.slice Ab2 Ex.Sn.zero.alpn.length cb2) (.slice Ac2 Ex.Sn.zero.vers.length cc2)) (vC_one _ _ _ _ _ _ _ _ _ _ _ _) rfl rfl rfl rfl ?_)
 go_ret
 exact ⟨rfl, HLf.out⟩
end Go.Proofs.YthfknndjdfofgaaGreatDoor.Tp

/-
 What all the laws' last steps share: an argument that is only read reads behind the call as it did; bytes out of integers.
-/
namespace Go.Proofs.YthfknndjdfofgaaGreatDoor.Lift
set_option maxRecDepth 100000
open Go.ChangeShapes Go.WideShapes Go.ChangeAt Go.RowKit Go.Proofs.YthfknndjdfofgaaGreatDoor.Wd

theorem own : ownKnob Tryz.prog.godebug = none := by kernel_rfl
theorem laidOut : laidOutB Tryz.prog = true := by kernel_rfl

theorem byte_of {a : Int} (h : (Lit.int .u8 a).wf = true) : ∃ c : UInt8, a = (c.toNat : Int) := by
 have hx : 0 ≤ a ∧ a ≤ 255 := by simpa [Lit.wf, IntKind.min, IntKind.max, IntKind.signed, IntKind.bits] using h
 refine ⟨UInt8.ofNat a.toNat, ?_⟩
 simp only [UInt8.toNat_ofNat']
 omega
theorem bytes_of {zs : List Int} (h : ∀ n ∈ zs, (Lit.int .u8 n).wf = true) : ∃ xs : List UInt8, zs = xs.map fun c => (c.toNat : Int) := by
 induction zs with
 | nil => exact ⟨[], rfl⟩
 | cons z zs ih =>
   obtain ⟨c, rfl⟩ := byte_of (h z (by simp))
   obtain ⟨xs, rfl⟩ := ih (fun n hn => h n (by simp [hn]))
   exact ⟨c :: xs, rfl⟩

theorem open_bytes {H : Type} {enc : TypeId × Value → H} {W : World} {sp : Nat → Bool} {hd : Bool} {base b0 : Nat} {v : Value} {d : DataW H} {p : List MemPlace}
   (hv : Value.okWide Tryz.prog W .any b0 22 v) (h : DataW.Trod enc Tryz.prog W base sp hd 22 v d p) : ∃ A n c xs, v = .slice A n c ∧ n ≤ c ∧ c ≤ maxLen ∧ Src W A n xs := by
 obtain ⟨A, n, c, rfl⟩ := okWide_slice Tryz.underlying22 hv
 obtain ⟨fuel, hf⟩ := h
 rcases open_ints Tryz.underlying22 Tryz.underlying5 (by kernel_rfl) hf with ⟨hcs, _⟩ | ⟨x, l, c', zs, hcs, _, hl, hm, hz, hx, hcell, hwz⟩
 · simp [Value.cells] at hcs
   obtain ⟨rfl, rfl, rfl⟩ := hcs
   exact ⟨none, 0, 0, [], rfl, Nat.le_refl _, Nat.zero_le _, Src.nil W⟩
 · simp [Value.cells] at hcs
   obtain ⟨rfl, rfl, rfl⟩ := hcs
   obtain ⟨xs, rfl⟩ := bytes_of hwz
   rw [List.length_map] at hz hcell
   have hnl : n ≤ xs.length := by rw [hz]; split <;> omega
   refine ⟨_, n, c, xs.take n, rfl, hl, hm, by rw [List.length_take]; omega, fun hn => ⟨x, rfl, ?_, fun j y hj => ?_⟩⟩
   · have h0 := hcell 0 (by omega)
     rcases Nat.lt_or_ge x.block W.heap.size with h | h
     · exact h
     · have : W.heap[x.block]? = none := Array.getElem?_eq_none h
       simp [World.cell?, block_of_add, this] at h0
   · rw [List.getElem?_take] at hj
     split at hj
     · have hjl := (List.getElem?_eq_some_iff.1 hj).1
       rw [hcell j hjl, List.getD_eq_getElem?_getD, List.getElem?_map, hj]
       rfl
     · cases hj
end Go.Proofs.YthfknndjdfofgaaGreatDoor.Lift

/-
 Laws whose rows list tables: what the lists give (Env), how a law is lifted, an address opened. Plain lemmas.
-/
namespace Go.Proofs.YthfknndjdfofgaaGreatDoor.Lift
set_option maxRecDepth 100000
open Go.ChangeShapes Go.WideShapes Go.ChangeAt Go.RowKit Go.Proofs.YthfknndjdfofgaaGreatDoor.Wd Go.Proofs.YthfknndjdfofgaaGreatDoor.Ad

def tab64 : List Int := [0, 1, 56, 2, 57, 49, 28, 3, 61, 58, 42, 50, 38, 29, 17, 4, 62, 47, 59, 36, 45, 43, 51, 22, 53, 39, 33, 30, 24, 18, 12, 5, 63, 55, 48, 27, 60, 41, 37, 16, 46, 35, 44, 21, 52, 32, 23, 11, 54, 26, 40, 15, 34, 20, 31, 10, 25, 14, 19, 9, 13, 8, 7, 6]
theorem returns_laid {H : Type} {enc : TypeId × Value → H} {a : Assume} {C : Checked} {os : Os} {f : FuncId} {fn : Func} {s : ChangeSpec} {conds : List PathCond} {apart fresh handsOn again : Bool} {X : World → Array Value → Prop}
   (hX : ∀ (w w' : World) (args : Array Value), w.heap = w'.heap → X w args → X w' args)
   (own : ownKnob C.prog.godebug = none) (started : os.Started) (noInit : C.prog.inits.idxOf? f = none) (hfn : C.prog.funcs[f]? = some fn)
   (witness : ∃ (w : World) (tape : Tape) (i : Input), w.os = os ∧ (w.forCall tape i).Shaped C.prog ∧ i.vars = [] ∧ Input.okWide C.prog (w.forCall tape i) .any w.heap.size f i ∧
     ((s.pre enc C.prog fn conds apart (w.forCall tape i).memory i.args ∧ X (w.forCall tape i).memory i.args) ∧ sizedMet enc C.prog fn (OpenSpec.ofChange s) apart (w.forCall tape i).memory i.args) ∧ a.holds C.prog (lone (Frame.enter C.prog f i.args .normal) [] (w.forCall tape i)))
   (contract : ∀ (W : World) (base : Nat) (args : Array Value) (ds gs : List (DataW H)) (before : List MemPlace),
     (∀ (j : Nat) t v, fn.params[j]? = some t → args[j]? = some v → Value.okWide C.prog W .any base t v) →
     DataW.Whole enc C.prog fn.params.toList s.vars apart W args.toList ds gs before → X W args → W.ShapedOpen C.prog →
     Calls C.prog f args W fun e W' => ∃ v, e = .returned v ∧ s.post enc C.prog fn apart fresh handsOn again W args v W') :
   ReturnsInHanded a C os f .any (fun w args => (s.pre enc C.prog fn conds apart w args ∧ X w args) ∧ sizedMet enc C.prog fn (OpenSpec.ofChange s) apart w args) (s.post enc C.prog fn apart fresh handsOn again) := by
 refine returnsInHanded_of_calls own started noInit witness ?_
 intro w tape i _ hsh _ hok hpre _
 obtain ⟨_, _, _, fn', hfn', _, _, _, _, hval⟩ := hok
 have e : fn' = fn := Option.some.inj (hfn'.symm.trans hfn)
 subst e
 obtain ⟨⟨⟨ds, gs, before, hw, _⟩, hx⟩, _⟩ := hpre
 have hw' := DataW.Whole.of_heap (w' := w.forCall tape i) (by rfl) hw
 refine (contract (w.forCall tape i) w.heap.size i.args ds gs before hval hw' (hX _ _ _ (by rfl) hx) hsh).mono fun e W' ⟨v, he, hp⟩ => ?_
 subst he
 exact ChangeSpec.post_blind hp

end Go.Proofs.YthfknndjdfofgaaGreatDoor.Lift

/-
 Laws whose rows list five tables, one of them a great one: what the lists give (Env), a world in which they lie. Plain lemmas.
-/
namespace Go.Proofs.YthfknndjdfofgaaGreatDoor.Lift
set_option maxRecDepth 100000
open Go.ChangeShapes Go.WideShapes Go.ChangeAt Go.RowKit Go.Proofs.YthfknndjdfofgaaGreatDoor.Wd Go.Proofs.YthfknndjdfofgaaGreatDoor.Ad

def laid5 : List (String × DataW Unit) := [("math/bits.deBruijn32tab", Rows.laid_math_bits_deBruijn32tab), ("math/bits.deBruijn64tab", Rows.laid_math_bits_deBruijn64tab), ("internal/strconv.uint64pow10", Rows.laid_internal_strconv_uint64pow10),
 ("unicode/utf8.acceptRanges", Rows.laid_unicode_utf8_acceptRanges), ("unicode/utf8.first", Rows.laid_unicode_utf8_first)]

theorem door_met5 (os : Os) (args : Array Value) : laidMetH Tryz.prog laid5 ((World.laidAll Tryz.prog os laid5).forCall (fun _ _ => 0) ⟨#[], args, []⟩).memory := by
 rw [MakeChecks.laidMetH_plain _ _ _ (by kernel_rfl)]
 exact laidMet_laidAll _ (by kernel_rfl) (by kernel_rfl)

theorem env_of5 {W : World} (hL : laidMetH Tryz.prog laid5 W) (hs : W.ShapedOpen Tryz.prog) : Env W.heap.size W := by
 rw [MakeChecks.laidMetH_plain _ _ _ (by kernel_rfl)] at hL
 have h3 : laidMet Tryz.prog (("internal/strconv.uint64pow10", Lib.tabData .u64 Lib.pow10Tab) :: [("unicode/utf8.acceptRanges", Rows.laid_unicode_utf8_acceptRanges), ("unicode/utf8.first", Rows.laid_unicode_utf8_first)]) W := hL.tail.tail
 have hm := cell_of_shapedOpen_int (P := Tryz.prog) (g := 0) (t := 3) (k := .i64) (zero := #[.int .i64 0]) hs (of_decide_eq_true (by kernel_rfl)) (by kernel_rfl) rfl (by kernel_rfl) (by kernel_rfl) Tryz.underlying3
 have h2 : laidMet Tryz.prog (("math/bits.deBruijn64tab", Lib.tabData .u8 tab64) :: ("internal/strconv.uint64pow10", Lib.tabData .u64 Lib.pow10Tab) :: [("unicode/utf8.acceptRanges", Rows.laid_unicode_utf8_acceptRanges), ("unicode/utf8.first", Rows.laid_unicode_utf8_first)]) W := hL.tail
 have hz := (Lib.tabIs_of_head (g := 5) (n := 64) (e := 5) (by kernel_rfl) rfl (by kernel_rfl) (by kernel_rfl) (by kernel_rfl) (by kernel_rfl) h2).cell (g := 5) (by kernel_rfl) 15 (by decide)
 have hz4 : W.cell? ⟨5, 15, none⟩ = some (.int .u8 4) := hz
 refine ⟨hm, Lib.tabBelow_of_tabIs (Lib.tabIs_of_head (g := 3) (n := 20) (e := 171) (by kernel_rfl) rfl (by kernel_rfl) (by kernel_rfl) (by kernel_rfl) (by kernel_rfl) h3), ?_, Nat.le_refl _, hz4, World.block_lt_of_cell? W _ hz4⟩
 obtain ⟨m, hm⟩ := hm
 rcases Nat.lt_or_ge 0 W.heap.size with h | h
 · exact h
 · have : W.heap[(0 : Nat)]? = none := Array.getElem?_eq_none h
   simp [World.cell?, this] at hm
end Go.Proofs.YthfknndjdfofgaaGreatDoor.Lift
