/-
 TlspeekSizes: a hello is known by its last byte, whatever size its records have, with the name in its one form, and its protocols; else the small case comes out right. Conditions: none beyond the statement's own.
-/
import Derived.Test.YthfknndjdfofgaaGreatDoorR49
import Derived.Test.YthfknndjdfofgaaGreatDoorR50
import Derived.Test.YthfknndjdfofgaaGreatDoorR07
import Derived.Test.YthfknndjdfofgaaGreatDoorR36
import Derived.Test.YthfknndjdfofgaaGreatDoorR40
import Derived.Test.YthfknndjdfofgaaGreatDoorR05
import Derived.Test.YthfknndjdfofgaaGreatDoorCards
import Derived.Test.YthfknndjdfofgaaGreatDoorTie
set_option maxRecDepth 100000
namespace Go.Proofs.YthfknndjdfofgaaGreatDoor.tlspeekSizes
open Go.ChangeMaps (open_string shut_string)
open Go.ChangeShapes Go.WideShapes Go.ChangeAt Go.RowKit Go.Proofs.YthfknndjdfofgaaGreatDoor.Wd Go.Proofs.YthfknndjdfofgaaGreatDoor.Tp Go.Proofs.YthfknndjdfofgaaGreatDoor.Lift

set_option linter.unusedSimpArgs false in
set_option maxHeartbeats 16000000 in
theorem walk (W : World) (s : ByteArray) (hs0 : s.size ≤ maxLen) (A : Option Addr) (n cap : Nat) (l : List (List UInt8)) (le0 : n ≤ cap) (mx : cap ≤ maxLen) (hl0 : Ro.SrcE W Ro.elS A l ∧ l.length = n ∧ ∀ x ∈ l, x.length ≤ 9223372036854775807) (size : Int) (_hsz : -9223372036854775808 ≤ size ∧ size ≤ 9223372036854775807) (hE : Ad.Env W.heap.size W) :
   Calls Tryz.prog 6 #[.string s, .slice A n cap, .int .i64 size] W fun e w' => e = .returned (.bool true) ∧ Below W.heap.size W w' := by
 obtain ⟨x, rfl⟩ : ∃ x, s = str8 x := ⟨lst s, (lst_inj (lst_str8 _)).symm⟩
 obtain ⟨hl1, hl2, hl3⟩ := hl0
 have hxl : x.length ≤ maxLen := hs0
 have hn9 : n ≤ 9223372036854775807 := Nat.le_trans le0 mx

 have HS := Lib.hid hl1
 have HLn := Lib.hid hl2
 have HE := Lib.hid hE
 have HSm := Lib.hid (small_any W hE)
 have HP := Lib.hid (fun w => Ex.pname_any x w)
 have HQ := Lib.hid (fun w hs => Ex.pprotos_any A n cap l w hs hl2 hn9 hl3)
 have HBy := Lib.hid (fun d p w h0 h1 h2 hd hp hs => bytes_any x A n cap l size d p w h0 h1 h2 hd hp hl2 hs)
 have HNm := Lib.hid (fun w hE hs => Nm.norm_any (B := W.heap.size) (str8 x) w hE hs)
 have HX := Lib.hid hxl
 obtain ⟨X, hX⟩ : ∃ X, str8 x = X := ⟨_, rfl⟩
 have HXs := Lib.hid hX
 rw [hX] at HP HBy HNm ⊢
 clear hE mx hl1 hl2 hl3 hs0 hX hxl
 go_enter Tryz.func6, Tryz.ntmps6
 go_wp2_with fail
 refine HSm.out.mono ?_
 rintro e w1 ⟨rfl, hb⟩
 have HL1 := Lib.hid hb
 have HS1 := Lib.hid (HS.out.below hb)
 clear hb HSm HS
 obtain ⟨q1, hq1⟩ : ∃ q, Ex.layS Ex.putN 2 [x] = q := ⟨_, rfl⟩
 obtain ⟨q2, hq2⟩ : ∃ q, Ex.layS Ex.putP 2 l = q := ⟨_, rfl⟩
 rw [hq1] at HP
 rw [hq2] at HQ
 have H1 := Lib.hid hq1
 have H2 := Lib.hid hq2
 clear hq1 hq2
 unfold Ex.ItemP at HP HQ
 go_wp2_with fail
 refine (HP.out w1).mono ?_
 rintro e' w2 ⟨A1, n1, c1, rfl, hs1, hc1, hb⟩
 have HL2 := Lib.hid (HL1.out.trans (hb.mono HL1.out.size))
 have HS2 := Lib.hid (HS1.out.below hb)
 clear hb HP HL1 HS1
 cases q1 with
 | none =>
   simp only [Option.isSome_none]
   go_wp2_with fail
   refine (HQ.out w2 HS2.out).mono ?_
   rintro e' w3 ⟨A2, n2, c2, rfl, hs2, hc2, hb⟩
   have HL3 := Lib.hid (HL2.out.trans (hb.mono HL2.out.size))
   clear hb
   go_wp2_with fail
   go_ret
   exact ⟨rfl, HL3.out⟩
 | some d =>
 simp only [Option.isSome_some]
 have hd0 : d.length = n1 := hs1.1
 clear hs1
 go_wp2_with fail
 refine (HQ.out w2 HS2.out).mono ?_
 rintro e' w3 ⟨A2, n2, c2, rfl, hs2, hc2, hb⟩
 have HL3 := Lib.hid (HL2.out.trans (hb.mono HL2.out.size))
 have HS3 := Lib.hid (HS2.out.below hb)
 clear hb HL2 HS2 HQ
 cases q2 with
 | none =>
   simp only [Option.isSome_none]
   go_wp2_with fail
   go_ret
   exact ⟨rfl, HL3.out⟩
 | some p =>
 simp only [Option.isSome_some]
 have hp0 : p.length = n2 := hs2.1
 clear hs2
 by_cases g1 : 300 < n1
 · have i1 : decide ((300 : Int) < (n1 : Int)) = true := decide_eq_true (by omega)
   clear g1
   go_wp2_with fail
   go_ret
   exact ⟨rfl, HL3.out⟩
 have i1 : decide ((300 : Int) < (n1 : Int)) = false := decide_eq_false (by omega)
 by_cases g2 : 2000 < n2
 · have i2 : decide ((2000 : Int) < (n2 : Int)) = true := decide_eq_true (by omega)
   clear g1 g2
   go_wp2_with fail
   go_ret
   exact ⟨rfl, HL3.out⟩
 have i2 : decide ((2000 : Int) < (n2 : Int)) = false := decide_eq_false (by omega)
 have hdl : d.length ≤ 300 := by omega
 have hpl : p.length ≤ 2000 := by omega
 have hx255 : x.length ≤ 255 := by
   cases h : Ex.mayS x with
   | false => have := Ex.lay_none h; rw [H1.out] at this; cases this
   | true => unfold Ex.mayS at h; rw [Bool.and_eq_true, decide_eq_true_eq] at h; exact h.1
 clear g1 g2
 have hk := (Rc.sizeK_eq size).2
 obtain ⟨te, tm, hkn⟩ := sizes_known H1.out H2.out hdl hpl (Rc.sizeK size) hk
 obtain ⟨fs, hfs⟩ : ∃ fs, Rc.frameS (Rc.sizeK size) (Sh.wrapS (He.layS (helB d p))) = fs := ⟨_, rfl⟩
 have hfl : fs.length ≤ 100000 := by
   have h := Rc.frameS_le (Rc.sizeK size) hk (Sh.wrapS (He.layS (helB d p)))
   rw [hfs, Sh.wrapS_len, hel_len] at h
   omega
 have HB := Lib.hid (HBy.out d p w3 hx255 H1.out H2.out hdl hpl HS3.out)
 rw [hfs] at HB hkn
 have HKn := Lib.hid hkn
 have HNn := Lib.hid (show X.size < 4294967281 by rw [← HXs.out]; show x.length < _; omega)
 have HNq := Lib.hid (show Asc.bs X = x by rw [← HXs.out]; exact Ex.bs_str8 x)
 have hnl : n ≤ 2000 := by have := (lay_sum H2.out).2.1; have := HLn.out; omega
 clear hkn hfs hk hdl hpl hx255 HBy hd0 hp0 H1 H2
 go_wp2_with fail
 refine HB.out.mono ?_
 rintro e' w4 ⟨v, rfl, ho, hb⟩
 obtain ⟨Ab, cb, rfl, hcb, hsb⟩ := Own.src ho
 obtain ⟨nb, hnb⟩ : ∃ k, fs.length = k := ⟨_, rfl⟩
 rw [hnb] at hcb hsb hfl HKn ⊢
 have HL4 := Lib.hid (HL3.out.trans (hb.mono HL3.out.size))
 have HS4 := Lib.hid (HS3.out.below hb)
 have HA := Lib.hid (fun w hE hs => all_any (B := W.heap.size) Ab nb cb fs w hE hs (by omega))
 have HF4 := Lib.hid hsb
 clear hb hsb ho HB hnb HS3 HL3
 unfold AllP at HA
 obtain ⟨t, ht⟩ : ∃ t, allT fs = t := ⟨_, rfl⟩
 rw [ht] at HA HKn
 clear ht
 go_wp2_with fail
 refine (HA.out w4 (HE.out.below HL4.out) HF4.out).mono ?_
 rintro e' w5 ⟨va, vv, rfl, hva, hvv, hb⟩
 have HL5 := Lib.hid (HL4.out.trans (hb.mono HL4.out.size))
 have HA5 := Lib.hid hva
 have HV5 := Lib.hid hvv
 have HS5 := Lib.hid (HS4.out.below hb)
 clear hb hva hvv HA HL4 HS4 HF4
 obtain ⟨Ava, cva, rfl⟩ := Ro.OwnE.form HA5.out.1
 obtain ⟨Avv, cvv, rfl⟩ := Ro.OwnE.form HV5.out.1
 go_upto_region 8 with (refine He.go_st 31 (Blk.new _ _ _) infV rfl (vC_size _ _ _ _ _ _ _ _) (vC_one _ _ _ _ _ _ _ _ _ _ _ _) rfl rfl rfl rfl ?_)
 obtain ⟨hk, hb⟩ := verd_new w5 (vC (t.z : Int) 1 (t.u : Int) t.r (str8 t.h) t.s (.slice Ava t.s.alpn.length cva) (.slice Avv t.s.vers.length cvv))
 have HL6 := Lib.hid (HL5.out.trans (hb.mono HL5.out.size))
 have HA5k := Lib.hid (HA5.out.below hb)
 have HV5k := Lib.hid (HV5.out.below hb)
 have HK := Lib.hid hk
 have HS6 := Lib.hid (HS5.out.below hb)
 clear hk hb HL5 HA5 HV5
 generalize (w5.alloc (.cells #[Value.int .i64 0, .int .i64 0, .int .i64 0, .int .i64 0, .string ⟨#[]⟩, .int .i64 0, .bool false, .string ⟨#[]⟩, .slice none 0 0, .slice none 0 0, .bool false] 31)).setRow w5.heap.size (vC (t.z : Int) 1 (t.u : Int) t.r (str8 t.h) t.s (.slice Ava t.s.alpn.length cva) (.slice Avv t.s.vers.length cvv)) = w6 at *
 obtain ⟨G, hg⟩ : ∃ g, w5.heap.size = g := ⟨_, rfl⟩
 rw [hg] at HK
 rw [hg]
 clear hg
 clear HS5
 go_wp2_with fail
 refine (HNm.out w6 (HE.out.below HL6.out) HNn.out).mono ?_
 rintro e' w7 ⟨rfl, hb⟩
 have HL7 := Lib.hid (HL6.out.trans (hb.mono HL6.out.size))
 have HS7 := Lib.hid (HS6.out.below hb)
 have HA7 := Lib.hid (HA5k.out.below hb)
 have HK7 := Lib.hid (HK.out.below hb HK.out.lt)
 clear hb HK HA5k HV5k HL6 HS6 HNm
 rw [HNq.out]
 obtain ⟨⟨nn, ne⟩, hnq⟩ : ∃ q, Nm.normalS x = q := ⟨_, rfl⟩
 rw [hnq] at HKn ⊢
 simp only at HKn ⊢
 have k0 : w7.cell? ⟨G, 0, none⟩ = some (.int .i64 (t.z : Int)) := by rw [HK7.out.cell]; rfl
 have k1 : w7.cell? ⟨G, 1, none⟩ = some (.int .i64 1) := by rw [HK7.out.cell]; rfl
 have k2 : w7.cell? ⟨G, 2, none⟩ = some (.int .i64 (t.u : Int)) := by rw [HK7.out.cell]; rfl
 have k3 : w7.cell? ⟨G, 3, none⟩ = some (.int .i64 t.r) := by rw [HK7.out.cell]; rfl
 have k4 : w7.cell? ⟨G, 4, none⟩ = some (.string (str8 t.h)) := by rw [HK7.out.cell]; rfl
 have k5 : w7.cell? ⟨G, 5, none⟩ = some (.int .i64 0) := by rw [HK7.out.cell]; rfl
 have k6 : w7.cell? ⟨G, 6, none⟩ = some (.bool t.s.has) := by rw [HK7.out.cell]; rfl
 have k7 : w7.cell? ⟨G, 7, none⟩ = some (.string (str8 t.s.name)) := by rw [HK7.out.cell]; rfl
 have k8 : w7.cell? ⟨G, 8, none⟩ = some (.slice Ava t.s.alpn.length cva) := by rw [HK7.out.cell]; rfl
 have k9 : w7.cell? ⟨G, 9, none⟩ = some (.slice Avv t.s.vers.length cvv) := by rw [HK7.out.cell]; rfl
 have k10 : w7.cell? ⟨G, 10, none⟩ = some (.bool t.s.ech) := by rw [HK7.out.cell]; rfl
 by_cases hz : ne = 0
 case neg =>
   have hkn := HKn.out
   rw [if_pos hz] at hkn
   subst hkn
   clear HKn hnq
   have e0 : ((nb : Int) != (nb : Int)) = false := by simp
   have e1 : (ne != 0) = true := by rw [bne_iff_ne]; exact hz
   have e2 : (ne == ne) = true := by simp
   simp only at k0 k1 k2 k3 k4 k5 k6 k7 k8 k9 k10
   have k4' : w7.cell? ⟨G, 4, none⟩ = some (.string ⟨#[]⟩) := k4
   have k8' : w7.cell? ⟨G, 8, none⟩ = some (.slice Ava 0 cva) := k8
   clear k4 k8 hz
   go_wp2_with fail
   go_ret
   exact ⟨rfl, HL7.out⟩
 have hkn := HKn.out
 rw [if_neg (by rw [hz]; simp)] at hkn
 subst hkn
 subst hz
 clear HKn hnq
 simp only at k0 k1 k2 k3 k4 k5 k6 k7 k8 k9 k10 HA7
 obtain ⟨A', c', e8, _, _, hr⟩ := HA7.out.1.src Ro.fineS
 injection e8 with e8 _ e9
 subst e8 e9
 have HR := Lib.hid hr
 have k0' : w7.cell? ⟨G, 0, none⟩ = some (.int .i64 1) := k0
 have k8' : w7.cell? ⟨G, 8, none⟩ = some (.slice Ava n cva) := by rw [k8, HLn.out]
 have k7' : w7.cell? ⟨G, 7, none⟩ = some (.string X) := by rw [k7, HXs.out]
 obtain ⟨N, hN⟩ : ∃ N, str8 nn = N := ⟨_, rfl⟩
 rw [hN] at k4
 have hN2 : Ad.str nn = N := hN
 rw [hN2]
 have e0 : ((nb : Int) != (nb : Int)) = false := by simp
 clear k0 k8 k7 k9 k10 hr hN hN2 HA7
 go_wp2_with fail
 refine (Ex.rrows_any Ava A n cva cap l w7 HR.out HS7.out HLn.out (by omega)).mono ?_
 rintro e' w8 ⟨rfl, HD⟩
 have k5' : w8.cell? ⟨G, 5, none⟩ = some (.int .i64 0) := by obtain ⟨j, rfl⟩ := HD.out; simpa using k5
 have HL8 := Lib.hid (show Below W.heap.size W w8 from HL7.out.trans ((Ex.drewB HD.out).mono HL7.out.size))
 clear HD k5 HL7
 go_wp2_with fail
 go_ret
 exact ⟨rfl, HL8.out⟩

set_option maxRecDepth 100000 in
set_option linter.unusedVariables false in
theorem lifted (os : Os) (started : os.Started) (H : Type) (enc : TypeId × Value → H) :
   ReturnsInHanded {} Tryz.checked os 6 .any (fun w args => (Rows.tlspeekSizesSpec.pre enc Tryz.prog Tryz.f6 [] false w args ∧ laidMetH Tryz.prog laid5 w) ∧ sizedMet enc Tryz.prog Tryz.f6 (OpenSpec.ofChange Rows.tlspeekSizesSpec) false w args)
     (Rows.tlspeekSizesSpec.post enc Tryz.prog Tryz.f6 false true false false) := by
 refine returns_laid (C := Tryz.checked) (X := fun w _ => laidMetH Tryz.prog laid5 w) (fun _ _ _ hh h => h.of_heap hh) own started (by kernel_rfl) Tryz.func6
   (ChangeSpec.witness_shaped (enc := enc) (C := Tryz.checked) (os := os) (X := fun w _ => laidMetH Tryz.prog laid5 w) false (World.laidAll Tryz.prog os laid5) #[.string .empty, .slice none 0 0, .int .i64 0] 8 (World.laidAll_os _ _ _)
     (World.shaped_of_ZipB (by kernel_rfl) (by kernel_rfl)) (by kernel_rfl) (by kernel_rfl) (by kernel_rfl) (door_met5 os _)) ?_
 intro W base args ds gs before hval0 hW hL hshp
 have hE := env_of5 hL hshp
 have hval : ∀ (j : Nat) t v, Tryz.f6.params[j]? = some t → args[j]? = some v → Value.okWide Tryz.prog W .any base t v := hval0
 have hW' := hW
 obtain ⟨p, q, hA0, hV, rfl, hfz, hnd⟩ := hW
 have hA : DataW.TrodAll enc Tryz.prog W 0 (fun _ => true) true Tryz.f6.params.toList args.toList ds p := hA0
 rw [Tryz.params6] at hA hval
 obtain ⟨v0, vs0, d0, ds0, p0, q0, hargs, rfl, rfl, h0, r0⟩ := trodAll_cons hA
 obtain ⟨v1, vs1, d1, ds1, p1, q1, rfl, rfl, rfl, h1, r1⟩ := trodAll_cons r0
 obtain ⟨v2, vs2, d2, ds2, p2, q2, rfl, rfl, rfl, h2, r2⟩ := trodAll_cons r1
 obtain ⟨rfl, rfl, rfl⟩ := trodAll_nil r2
 obtain rfl : args = #[v0, v1, v2] := by cases args; simp_all
 obtain ⟨rfl, rfl⟩ := trodVars_none hV
 have k0 := h0
 have lt0 : ∀ x ∈ p0, x.block < W.heap.size := by obtain ⟨m, hm⟩ := k0; exact DataW.trod_lt m _ _ _ hm
 obtain ⟨s0, rfl, rfl, rfl, hs0⟩ := open_string Tryz.underlying9 (hval 0 9 v0 rfl rfl) h0
 have k1 := h1
 have lt1 : ∀ x ∈ p1, x.block < W.heap.size := by obtain ⟨m, hm⟩ := k1; exact DataW.trod_lt m _ _ _ hm
 obtain ⟨A1, n1, cap1, xs1, rfl, le1, mx1, src1⟩ := open_strE (hval 1 26 v1 rfl rfl) h1
 have k2 := h2
 have lt2 : ∀ x ∈ p2, x.block < W.heap.size := by obtain ⟨m, hm⟩ := k2; exact DataW.trod_lt m _ _ _ hm
 obtain ⟨a2, rfl, rfl, rfl, w2⟩ := open_int Tryz.underlying3 (hval 2 3 v2 rfl rfl) h2
 have b2 := int_of w2
 clear hA0 hval0
 refine (walk W s0 hs0 A1 n1 cap1 xs1 le1 mx1 src1 a2 b2 hE).mono fun e W' ⟨he, bel⟩ => ?_
 subst he
 exact ⟨_, rfl, _, _, _, [], _, [], hW', trodAll_mk1 (shut_bool Tryz.underlying4 _), (trodAll_cons_mk (Below.trod Lift.laidOut (by kernel_rfl) (of_decide_eq_true (by kernel_rfl)) k0 bel lt0) (trodAll_cons_mk (Below.trod Lift.laidOut (by kernel_rfl) (of_decide_eq_true (by kernel_rfl)) k1 bel lt1) (trodAll_cons_mk (Below.trod Lift.laidOut (by kernel_rfl) (of_decide_eq_true (by kernel_rfl)) k2 bel lt2) trodAll_mk0))), rfl, bel.frame _, fun h => by cases h⟩

theorem over : Rows.tlspeekSizesRow.holds Tryz.pinned (OpenSpec.ofChange Rows.tlspeekSizesSpec) :=
 OpenClaim.holds_of_wide 6 Tryz.f6 rfl rfl rfl rfl rfl rfl rfl ⟨rfl, rfl, rfl, rfl, rfl⟩ rfl rfl rfl rfl rfl (by kernel_rfl) Tryz.func6 (by kernel_rfl)
   (of_decide_eq_true (by kernel_rfl)) (by unfold Func.isWrapper; first | (rw [if_pos (by decide +kernel)]; kernel_rfl) | (rw [if_neg (by decide +kernel)]; exact ⟨rfl, rfl⟩))
   (fun os started H enc _ => lifted os started H enc)

theorem proved : Rows.TlspeekSizesCardSaid :=
 Claim7.holds_tied_plain_at .later [] [.data, .data, .data, .data, .pinned] true (true, "b16d6ffb205dea833cc79c44a30065e39234ce0cc51c7e58c1a5a2563e765d3d") false
   over (fun _ h => by cases h) (by kernel_rfl) (fun _ h => by cases h) tlspeekSizes_row_tie rfl ⟨rfl, rfl⟩ (by kernel_rfl) rfl
   (fun f fn hf hfn => by
     obtain rfl : f = 6 := Option.some.inj ((show Tryz.prog.funcNamed "hagioscope/hagioscopelaw15.TlspeekSizes" = some 6 by kernel_rfl).symm.trans hf) |>.symm
     obtain rfl : fn = Tryz.f6 := (Option.some.inj (Tryz.func6.symm.trans hfn)).symm
     exact ⟨by kernel_rfl, fun j t ht => by
       rw [Tryz.params6] at ht
       have hm : t ∈ [9, 26, 3] := by simpa using Array.mem_of_getElem? ht
       have hall : ([9, 26, 3].all fun u => !Tryz.prog.wantsStandIn u) = true := by kernel_rfl
       exact (show Tryz.prog.wantsStandIn t = false by simpa using List.all_eq_true.1 hall t hm)⟩)
   (by kernel_rfl)
#print axioms proved
end Go.Proofs.YthfknndjdfofgaaGreatDoor.tlspeekSizes
