/-
 TlspeekBad: whatever is told to be bad has a reason, and nothing else; and what is open has none; else the small case comes out right. Conditions: none beyond the statement's own.
-/
import Derived.Test.YthfknndjdfofgaaGreatDoorR49
import Derived.Test.YthfknndjdfofgaaGreatDoorR50
import Derived.Test.YthfknndjdfofgaaGreatDoorCards
import Derived.Test.YthfknndjdfofgaaGreatDoorTie
set_option maxRecDepth 100000
namespace Go.Proofs.YthfknndjdfofgaaGreatDoor.tlspeekBad
open Go.ChangeMaps (open_string shut_string)
open Go.ChangeShapes Go.WideShapes Go.ChangeAt Go.RowKit Go.Proofs.YthfknndjdfofgaaGreatDoor.Wd Go.Proofs.YthfknndjdfofgaaGreatDoor.Tp Go.Proofs.YthfknndjdfofgaaGreatDoor.Lift

set_option linter.unusedSimpArgs false in
set_option maxHeartbeats 16000000 in
theorem walk (W : World) (A : Option Addr) (n cap : Nat) (xs : List UInt8) (le0 : n ≤ cap) (mx : cap ≤ maxLen) (src : Src W A n xs) (hE : Ad.Env W.heap.size W) :
   Calls Tryz.prog 7 #[.slice A n cap] W fun e w' => e = .returned (.bool true) ∧ Below W.heap.size W w' := by
 have hn9 : n ≤ 9223372036854775807 := Nat.le_trans le0 mx
 have HS := Lib.hid src
 have HE := Lib.hid hE
 have HSm := Lib.hid (small_any W hE)
 clear hE mx src
 go_enter Tryz.func7, Tryz.ntmps7
 go_wp2_with fail
 refine HSm.out.mono ?_
 rintro e w1 ⟨rfl, hb⟩
 have HL1 := Lib.hid hb
 have HS1 := Lib.hid (HS.out.below hb)
 clear hb HSm HS
 by_cases h1 : 5000 < n
 · have i1 : decide ((5000 : Int) < (n : Int)) = true := decide_eq_true (by omega)
   clear h1
   go_wp2_with fail
   go_ret
   exact ⟨rfl, HL1.out⟩
 have i1 : decide ((5000 : Int) < (n : Int)) = false := decide_eq_false (by omega)
 have hn : n ≤ 5000 := by omega
 clear h1
 have HA := Lib.hid (fun w hE hs => all_any (B := W.heap.size) A n cap xs w hE hs (by omega))
 unfold AllP at HA
 have hok := allT_ok xs
 obtain ⟨t, ht⟩ : ∃ t, allT xs = t := ⟨_, rfl⟩
 rw [ht] at HA hok
 have HOk := Lib.hid hok
 clear ht hok
 go_wp2_with fail
 refine (HA.out w1 (HE.out.below HL1.out) HS1.out).mono ?_
 rintro e' w2 ⟨va, vv, rfl, hva, hvv, hb⟩
 have HL2 := Lib.hid (HL1.out.trans (hb.mono HL1.out.size))
 have HA2 := Lib.hid hva
 have HV2 := Lib.hid hvv
 clear hb hva hvv HA HL1 HS1
 obtain ⟨Ava, cva, rfl⟩ := Ro.OwnE.form HA2.out.1
 obtain ⟨Avv, cvv, rfl⟩ := Ro.OwnE.form HV2.out.1
 go_upto_region 5 with (refine He.go_st 31 (Blk.new _ _ _) infV rfl (vC_size _ _ _ _ _ _ _ _) (vC_one _ _ _ _ _ _ _ _ _ _ _ _) rfl rfl rfl rfl ?_)
 obtain ⟨hk, hb⟩ := verd_new w2 (vC (t.z : Int) 1 (t.u : Int) t.r (str8 t.h) t.s (.slice Ava t.s.alpn.length cva) (.slice Avv t.s.vers.length cvv))
 have HL3 := Lib.hid (HL2.out.trans (hb.mono HL2.out.size))
 have HA2k := Lib.hid (HA2.out.below hb)
 have HV2k := Lib.hid (HV2.out.below hb)
 have HK := Lib.hid hk
 clear hk hb HL2 HA2 HV2
 generalize (w2.alloc (.cells #[Value.int .i64 0, .int .i64 0, .int .i64 0, .int .i64 0, .string ⟨#[]⟩, .int .i64 0, .bool false, .string ⟨#[]⟩, .slice none 0 0, .slice none 0 0, .bool false] 31)).setRow w2.heap.size (vC (t.z : Int) 1 (t.u : Int) t.r (str8 t.h) t.s (.slice Ava t.s.alpn.length cva) (.slice Avv t.s.vers.length cvv)) = w3 at *
 obtain ⟨G, hg⟩ : ∃ g, w2.heap.size = g := ⟨_, rfl⟩
 rw [hg] at HK
 rw [hg]
 clear hg
 have k0 : w3.cell? ⟨G, 0, none⟩ = some (.int .i64 (t.z : Int)) := by rw [HK.out.cell]; rfl
 have k1 : w3.cell? ⟨G, 1, none⟩ = some (.int .i64 1) := by rw [HK.out.cell]; rfl
 have k2 : w3.cell? ⟨G, 2, none⟩ = some (.int .i64 (t.u : Int)) := by rw [HK.out.cell]; rfl
 have k3 : w3.cell? ⟨G, 3, none⟩ = some (.int .i64 t.r) := by rw [HK.out.cell]; rfl
 have k4 : w3.cell? ⟨G, 4, none⟩ = some (.string (str8 t.h)) := by rw [HK.out.cell]; rfl
 have k5 : w3.cell? ⟨G, 5, none⟩ = some (.int .i64 0) := by rw [HK.out.cell]; rfl
 have k6 : w3.cell? ⟨G, 6, none⟩ = some (.bool t.s.has) := by rw [HK.out.cell]; rfl
 have k7 : w3.cell? ⟨G, 7, none⟩ = some (.string (str8 t.s.name)) := by rw [HK.out.cell]; rfl
 have k8 : w3.cell? ⟨G, 8, none⟩ = some (.slice Ava t.s.alpn.length cva) := by rw [HK.out.cell]; rfl
 have k9 : w3.cell? ⟨G, 9, none⟩ = some (.slice Avv t.s.vers.length cvv) := by rw [HK.out.cell]; rfl
 have k10 : w3.cell? ⟨G, 10, none⟩ = some (.bool t.s.ech) := by rw [HK.out.cell]; rfl
 by_cases hz : t.z = 1
 case neg =>
   obtain ⟨hh, hsn⟩ := HOk.out.bare hz
   have hwhy := HOk.out.why
   have hz2 := HOk.out.z2
   have e0 : ((t.z : Int) == 1) = false := by rw [beq_eq_false_iff_ne]; omega
   rw [hh] at k4
   rw [hsn] at k6 k7 k8 k9 k10
   obtain ⟨z, hze⟩ : ∃ z, t.z = z := ⟨_, rfl⟩
   obtain ⟨rr, hre⟩ : ∃ r, t.r = r := ⟨_, rfl⟩
   obtain ⟨u, hue⟩ : ∃ u, t.u = u := ⟨_, rfl⟩
   rw [hze] at k0 hwhy hz2 e0 hz
   rw [hre] at k3 hwhy
   rw [hue] at k2
   have k4' : w3.cell? ⟨G, 4, none⟩ = some (.string ⟨#[]⟩) := k4
   have k7' : w3.cell? ⟨G, 7, none⟩ = some (.string ⟨#[]⟩) := k7
   have k6' : w3.cell? ⟨G, 6, none⟩ = some (.bool false) := k6
   have k10' : w3.cell? ⟨G, 10, none⟩ = some (.bool false) := k10
   have k8' : w3.cell? ⟨G, 8, none⟩ = some (.slice Ava 0 cva) := k8
   have k9' : w3.cell? ⟨G, 9, none⟩ = some (.slice Avv 0 cvv) := k9
   clear k4 k7 k6 k10 k8 k9 hh hsn hze hre hue HK HA2k HV2k HOk
   have e3 : decide ((0 : Int) ≤ (z : Int)) = true := decide_eq_true (by omega)
   have e4 : decide ((z : Int) < 3) = true := decide_eq_true (by omega)
   by_cases h2 : z = 2
   · have e1 : ((z : Int) == 2) = true := by rw [beq_iff_eq]; omega
     have e2 : (rr != 0) = true := by rw [bne_iff_ne]; exact hwhy.1 h2
     clear hwhy h2 hz
     go_wp2_with fail
     go_ret
     exact ⟨rfl, HL3.out⟩
   · have e1 : ((z : Int) == 2) = false := by rw [beq_eq_false_iff_ne]; omega
     have e2 : (rr != 0) = false := by
       cases h : (rr != 0) with
       | false => rfl
       | true => exact absurd (hwhy.2 (bne_iff_ne.1 h)) h2
     clear hwhy h2 hz
     go_wp2_with fail
     go_ret
     exact ⟨rfl, HL3.out⟩
 have hr0 : (t.r != 0) = false := by
   have hwhy := HOk.out.why
   cases h : (t.r != 0) with
   | false => rfl
   | true => exact absurd (hwhy.2 (bne_iff_ne.1 h)) (by omega)
 rw [hz] at k0
 obtain ⟨rr, hre⟩ : ∃ r, t.r = r := ⟨_, rfl⟩
 rw [hre] at k3 hr0
 obtain ⟨Hs, hHs⟩ : ∃ H, str8 t.h = H := ⟨_, rfl⟩
 rw [hHs] at k4
 obtain ⟨Ns, hNs⟩ : ∃ H, str8 t.s.name = H := ⟨_, rfl⟩
 rw [hNs] at k7
 obtain ⟨n1, hn1⟩ : ∃ k, t.s.alpn.length = k := ⟨_, rfl⟩
 rw [hn1] at k8
 obtain ⟨n2, hn2⟩ : ∃ k, t.s.vers.length = k := ⟨_, rfl⟩
 rw [hn2] at k9
 obtain ⟨b1, hb1⟩ : ∃ b, t.s.has = b := ⟨_, rfl⟩
 rw [hb1] at k6
 obtain ⟨b2, hb2⟩ : ∃ b, t.s.ech = b := ⟨_, rfl⟩
 rw [hb2] at k10
 clear hre hHs hNs hn1 hn2 hb1 hb2 hz HK HA2k HV2k HOk
 cases q1 : Hs.toList.isEmpty
 · go_wp2_with fail
   go_ret
   exact ⟨rfl, HL3.out⟩
 cases b1
 case true =>
   go_wp2_with fail
   go_ret
   exact ⟨rfl, HL3.out⟩
 cases q2 : Ns.toList.isEmpty
 · go_wp2_with fail
   go_ret
   exact ⟨rfl, HL3.out⟩
 cases q3 : ((n1 : Int) == 0)
 · go_wp2_with fail
   go_ret
   exact ⟨rfl, HL3.out⟩
 cases q4 : ((n2 : Int) == 0)
 · go_wp2_with fail
   go_ret
   exact ⟨rfl, HL3.out⟩
 cases b2
 · go_wp2_with fail
   go_ret
   exact ⟨rfl, HL3.out⟩
 · go_wp2_with fail
   go_ret
   exact ⟨rfl, HL3.out⟩

set_option maxRecDepth 100000 in
set_option linter.unusedVariables false in
theorem lifted (os : Os) (started : os.Started) (H : Type) (enc : TypeId × Value → H) :
   ReturnsInHanded {} Tryz.checked os 7 .any (fun w args => (Rows.tlspeekBadSpec.pre enc Tryz.prog Tryz.f7 [] false w args ∧ laidMetH Tryz.prog laid5 w) ∧ sizedMet enc Tryz.prog Tryz.f7 (OpenSpec.ofChange Rows.tlspeekBadSpec) false w args)
     (Rows.tlspeekBadSpec.post enc Tryz.prog Tryz.f7 false true false false) := by
 refine returns_laid (C := Tryz.checked) (X := fun w _ => laidMetH Tryz.prog laid5 w) (fun _ _ _ hh h => h.of_heap hh) own started (by kernel_rfl) Tryz.func7
   (ChangeSpec.witness_shaped (enc := enc) (C := Tryz.checked) (os := os) (X := fun w _ => laidMetH Tryz.prog laid5 w) false (World.laidAll Tryz.prog os laid5) #[.slice none 0 0] 8 (World.laidAll_os _ _ _)
     (World.shaped_of_ZipB (by kernel_rfl) (by kernel_rfl)) (by kernel_rfl) (by kernel_rfl) (by kernel_rfl) (door_met5 os _)) ?_
 intro W base args ds gs before hval0 hW hL hshp
 have hE := env_of5 hL hshp
 have hval : ∀ (j : Nat) t v, Tryz.f7.params[j]? = some t → args[j]? = some v → Value.okWide Tryz.prog W .any base t v := hval0
 have hW' := hW
 obtain ⟨p, q, hA0, hV, rfl, hfz, hnd⟩ := hW
 have hA : DataW.TrodAll enc Tryz.prog W 0 (fun _ => true) true Tryz.f7.params.toList args.toList ds p := hA0
 rw [Tryz.params7] at hA hval
 obtain ⟨v0, vs0, d0, ds0, p0, q0, hargs, rfl, rfl, h0, r0⟩ := trodAll_cons hA
 obtain ⟨rfl, rfl, rfl⟩ := trodAll_nil r0
 obtain rfl : args = #[v0] := by cases args; simp_all
 obtain ⟨rfl, rfl⟩ := trodVars_none hV
 have k0 := h0
 have lt0 : ∀ x ∈ p0, x.block < W.heap.size := by obtain ⟨m, hm⟩ := k0; exact DataW.trod_lt m _ _ _ hm
 obtain ⟨A0, n0, cap0, xs0, rfl, le0, mx0, src0⟩ := open_bytes (hval 0 22 v0 rfl rfl) h0
 clear hA0 hval0
 refine (walk W A0 n0 cap0 xs0 le0 mx0 src0 hE).mono fun e W' ⟨he, bel⟩ => ?_
 subst he
 exact ⟨_, rfl, _, _, _, [], _, [], hW', trodAll_mk1 (shut_bool Tryz.underlying4 _), (trodAll_cons_mk (Below.trod Lift.laidOut (by kernel_rfl) (of_decide_eq_true (by kernel_rfl)) k0 bel lt0) trodAll_mk0), rfl, bel.frame _, fun h => by cases h⟩

theorem over : Rows.tlspeekBadRow.holds Tryz.pinned (OpenSpec.ofChange Rows.tlspeekBadSpec) :=
 OpenClaim.holds_of_wide 7 Tryz.f7 rfl rfl rfl rfl rfl rfl rfl ⟨rfl, rfl, rfl, rfl, rfl⟩ rfl rfl rfl rfl rfl (by kernel_rfl) Tryz.func7 (by kernel_rfl)
   (of_decide_eq_true (by kernel_rfl)) (by unfold Func.isWrapper; first | (rw [if_pos (by decide +kernel)]; kernel_rfl) | (rw [if_neg (by decide +kernel)]; exact ⟨rfl, rfl⟩))
   (fun os started H enc _ => lifted os started H enc)

theorem proved : Rows.TlspeekBadCardSaid :=
 Claim7.holds_tied_plain_at .later [] [.data, .data, .data, .data, .pinned] true (true, "b16d6ffb205dea833cc79c44a30065e39234ce0cc51c7e58c1a5a2563e765d3d") false
   over (fun _ h => by cases h) (by kernel_rfl) (fun _ h => by cases h) tlspeekBad_row_tie rfl ⟨rfl, rfl⟩ (by kernel_rfl) rfl
   (fun f fn hf hfn => by
     obtain rfl : f = 7 := Option.some.inj ((show Tryz.prog.funcNamed "hagioscope/hagioscopelaw15.TlspeekBad" = some 7 by kernel_rfl).symm.trans hf) |>.symm
     obtain rfl : fn = Tryz.f7 := (Option.some.inj (Tryz.func7.symm.trans hfn)).symm
     exact ⟨by kernel_rfl, fun j t ht => by
       rw [Tryz.params7] at ht
       have hm : t ∈ [22] := by simpa using Array.mem_of_getElem? ht
       have hall : ([22].all fun u => !Tryz.prog.wantsStandIn u) = true := by kernel_rfl
       exact (show Tryz.prog.wantsStandIn t = false by simpa using List.all_eq_true.1 hall t hm)⟩)
   (by kernel_rfl)
#print axioms proved
end Go.Proofs.YthfknndjdfofgaaGreatDoor.tlspeekBad
