/-
  FieldBack: what package field prints is parsed as it was, what is parsed can be printed, and is parsed the same; else the small case comes out right. Conditions: none beyond the statement's own.
-/
import Derived.Test.YtkbankjnfedkdaaFdSmall
import Derived.Test.YtkbankjnfedkdaaLiftFd
set_option maxRecDepth 100000
namespace Go.Proofs.Ytkbankjnfedkdaa.fieldBack
open Go.ChangeMaps (open_string)
open Go.ChangeShapes Go.WideShapes Go.ChangeAt Go.RowKit Go.Proofs.Ytkbankjnfedkdaa.Wd Go.Proofs.Ytkbankjnfedkdaa.Asc Go.Proofs.Ytkbankjnfedkdaa.Tx Go.Proofs.Ytkbankjnfedkdaa.St Go.Proofs.Ytkbankjnfedkdaa.Fd Go.Proofs.Ytkbankjnfedkdaa.Lift

set_option linter.unusedSimpArgs false in
set_option maxHeartbeats 8000000 in
theorem walk (W : World) (f : Fld) (hF0 : ShortF reachBytes f) (S : ByteArray) (hS0 : S.size ≤ maxLen) (hE : Env W.heap.size W) :
    Calls Try.prog 5 #[.agg (fdC f), .string S] W fun e w' => e = .returned (.bool true) ∧ Below W.heap.size W w' := by
  obtain ⟨A, hA⟩ : ∃ A, str f.name = A := ⟨_, rfl⟩
  obtain ⟨B, hB⟩ : ∃ B, str f.text = B := ⟨_, rfl⟩
  have hC : fdC f = #[.string A, .string B] := by rw [← hA, ← hB]; rfl
  have zA : A.size = f.name.length := by rw [← hA, str_size]
  have zB : B.size = f.text.length := by rw [← hB, str_size]
  have sA : A.size ≤ 140737488351232 := by rw [zA]; exact hF0.1
  have sB : B.size ≤ 140737488351232 := by rw [zB]; exact hF0.2
  have sS : S.size ≤ 9223372036854775807 := hS0
  rw [hC]
  have HC := Lib.hid hC
  have HE := Lib.hid hE
  have HS := Lib.hid (fun w hE => small_any (N := W.heap.size) w hE)
  clear hA hB hC hE hF0 hS0
  go_enter Try.func5, Try.ntmps5
  go_upto_region 1 with fail
  have b1 := Blk.new W 24 #[.string A, .string B]
  have hbel : Below W.heap.size W (W.alloc (.cells #[.string A, .string B] 24)) := (Below.refl _ _).alloc (Nat.le_refl _) _
  generalize W.alloc (.cells #[.string A, .string B] 24) = w1 at *
  obtain ⟨G, hG⟩ : ∃ G, W.heap.size = G := ⟨_, rfl⟩
  rw [hG] at b1 hbel HE HS ⊢
  have HG := Lib.hid hG
  have HK1 := Lib.hid b1
  have HL1 := Lib.hid hbel
  clear b1 hbel hG
  go_wp2_with fail
  refine (HS.out w1 (HE.out.below HL1.out)).mono ?_
  rintro e w2 ⟨rfl, hb⟩
  have HK2 := Lib.hid (HK1.out.below hb HK1.out.lt)
  have HL2 := Lib.hid (HL1.out.trans (hb.mono (Nat.le_of_lt HK1.out.lt)))
  have c0 := HK2.out.cell 0
  have c1 := HK2.out.cell 1
  clear hb HS HK1 HL1
  by_cases h1 : 1000 < A.size
  · have i1 : (1000 : Int) < (A.size : Int) := by omega
    go_wp2_with fail
    go_ret
    exact ⟨rfl, by rw [HG.out]; exact HL2.out⟩
  have i1 : ¬ (1000 : Int) < (A.size : Int) := by omega
  by_cases h2 : 3000 < B.size
  · have i2 : (3000 : Int) < (B.size : Int) := by omega
    go_wp2_with fail
    go_ret
    exact ⟨rfl, by rw [HG.out]; exact HL2.out⟩
  have i2 : ¬ (3000 : Int) < (B.size : Int) := by omega
  by_cases h3 : 3000 < S.size
  · have i3 : (3000 : Int) < (S.size : Int) := by omega
    go_wp2_with fail
    go_ret
    exact ⟨rfl, by rw [HG.out]; exact HL2.out⟩
  have i3 : ¬ (3000 : Int) < (S.size : Int) := by omega
  have l1 : f.name.length ≤ 100000 := by omega
  have l2 : f.text.length ≤ 100000 := by omega
  have P1 := Lib.hid (fun w hE => print_any (N := G) f w hE l1 l2)
  rw [HC.out] at P1
  have HLl := Lib.hid (show ∀ l, printS f = some l → l.length < 4294967281 from fun l h => by
    rw [(print_is h).1]; simp [lineF]; omega)
  have HPi := Lib.hid (fun l (h : printS f = some l) => (print_is h).2)
  obtain ⟨y, hy⟩ : ∃ y, (parseS (bs S)).1 = y := ⟨_, rfl⟩
  obtain ⟨k, hk⟩ : ∃ k, (parseS (bs S)).2 = k := ⟨_, rfl⟩
  have hyk : parseS (bs S) = (y, k) := by rw [← hy, ← hk]
  have hsl : (bs S).length ≤ 3000 := by rw [bs_length]; omega
  have PS := Lib.hid (fun w hE => par_is (N := G) (bs S) S (str_bs S).symm (y, k) hyk (by omega) w hE)
  have HNo := Lib.hid (fun h : k ≠ 0 => (show y = Fld.zero by rw [← hy]; exact parse_none (by rw [hk]; exact h)))
  have HYp := Lib.hid (fun h : k = 0 => (show parseS (lineF y) = (y, 0) from parse_ok (l := bs S) (by rw [hyk, h])))
  have hyl : y.name.length ≤ 3000 ∧ y.text.length ≤ 3000 := ⟨Nat.le_trans (parse_len hyk).1 hsl, Nat.le_trans (parse_len hyk).2 hsl⟩
  have P2 := Lib.hid (fun w hE => print_any (N := G) y w hE (by omega) (by omega))
  have P3 := Lib.hid (fun w hE => parse_any (N := G) (lineF y) w hE (by simp [lineF]; omega))
  clear zA zB h1 h2 h3 l1 l2 hy hk hyk hsl hyl
  have hz : (#[Value.string A, .string B] : Array Value).size = 2 := rfl
  have k2 := HK2.out
  go_wp2_with (refine go_ldg (x := .tmp 2) 24 k2 undF rfl infF hz (by rfl) rfl rfl ?_)
  refine (P1.out w2 (HE.out.below HL2.out)).mono ?_
  rintro e w3 ⟨rfl, hb⟩
  have HK3 := Lib.hid (HK2.out.below hb HK2.out.lt)
  have HL3 := Lib.hid (HL2.out.trans (hb.mono (Nat.le_of_lt HK2.out.lt)))
  clear hb k2 HK2 HL2 P1 c0 c1
  have HL3g : G ≤ w3.heap.size := Nat.le_of_lt HK3.out.lt
  cases hp : printS f with
  | none =>
    unfold optT
    clear HLl HPi hp
    go_wp2_with fail
    refine (PS.out w3 (HE.out.below HL3.out)).mono ?_
    rintro e w6 ⟨rfl, hb⟩
    have HL6 := Lib.hid (HL3.out.trans (hb.mono HL3g))
    have HL6g : G ≤ w6.heap.size := Nat.le_trans HL3g hb.size
    clear hb PS
    go_upto_region 10 with (refine go_st 24 (Blk.new _ _ _) infF rfl rfl (fdC_one _) rfl rfl rfl rfl ?_)
    obtain ⟨hk, hb⟩ := st_new w6 y
    have HL7 := Lib.hid (HL6.out.trans (hb.mono HL6g))
    have HK7 := Lib.hid hk
    clear hk hb HL6
    generalize (w6.alloc (.cells #[.string ⟨#[]⟩, .string ⟨#[]⟩] 24)).setRow w6.heap.size (fdC y) = w7 at *
    generalize w6.heap.size = g7 at *
    have hg7 : G ≤ w7.heap.size := Nat.le_of_lt (Nat.lt_of_le_of_lt HL6g HK7.out.lt)
    by_cases hf : k = 0
    · have HY := Lib.hid (HYp.out hf)
      have HPy := Lib.hid (print_yes HY.out)
      rw [HPy.out] at P2
      rw [HY.out] at P3
      subst hf
      have k7 := HK7.out
      have hz7 : (fdC y).size = 2 := rfl
      clear HNo HYp
      unfold optT at P2
      go_wp2_with (refine go_ldg (x := .tmp 10) 24 k7 undF rfl infF hz7 (by rfl) rfl rfl ?_)
      refine (P2.out w7 (HE.out.below HL7.out)).mono ?_
      rintro e w8 ⟨rfl, hb⟩
      have HL8 := Lib.hid (HL7.out.trans (hb.mono hg7))
      have HK8 := Lib.hid (HK7.out.below hb HK7.out.lt)
      have hg8 : G ≤ w8.heap.size := Nat.le_trans hg7 hb.size
      clear hb k7 P2 HL7 HK7
      go_wp2_with fail
      refine (P3.out w8 (HE.out.below HL8.out)).mono ?_
      rintro e w9 ⟨rfl, hb⟩
      have HL9 := Lib.hid (HL8.out.trans (hb.mono hg8))
      have HK9 := Lib.hid (HK8.out.below hb HK8.out.lt)
      have hg9 : G ≤ w9.heap.size := Nat.le_trans hg8 hb.size
      clear hb P3 HL8 HK8
      go_upto_region 15 with (refine go_st 24 (Blk.new _ _ _) infF rfl rfl (fdC_one _) rfl rfl rfl rfl ?_)
      obtain ⟨hk, hb⟩ := st_new w9 y
      have HL10 := Lib.hid (HL9.out.trans (hb.mono hg9))
      have k10 := HK9.out.below hb HK9.out.lt
      have n10 := hk
      clear hk hb HL9 HK9
      generalize (w9.alloc (.cells #[.string ⟨#[]⟩, .string ⟨#[]⟩] 24)).setRow w9.heap.size (fdC y) = w10 at *
      generalize w9.heap.size = g10 at *
      go_wp2_with (first | (refine go_ldg (x := .tmp 15) 24 n10 undF rfl infF hz7 (by rfl) rfl rfl ?_) | (refine go_ldg (x := .tmp 10) 24 k10 undF rfl infF hz7 (by rfl) rfl rfl ?_; refine Hid.out ?_))
      refine Lib.hid ?_
      refine go_eqlF (x := .tmp 92) (y := .tmp 93) (t := 24) y y true (by simp) rfl (by rfl) rfl rfl ?_
      go_wp2_with fail
      go_ret
      exact ⟨rfl, by rw [HG.out]; exact HL10.out⟩
    · have HZ := HNo.out hf
      subst HZ
      have hb1 : (k != 0) = true := by simp [hf]
      have hd1 : decide (k = 0) = false := by simp [hf]
      clear hf HYp HNo P2 P3
      go_upto_region 12 with fail
      obtain ⟨hk, hb⟩ := al_new w7
      have HL8 := Lib.hid (HL7.out.trans (hb.mono hg7))
      have HK8 := Lib.hid (HK7.out.below hb HK7.out.lt)
      have HN8 := Lib.hid hk
      clear hk hb HL7 HK7
      generalize w7.alloc (.cells #[.string ⟨#[]⟩, .string ⟨#[]⟩] 24) = w8 at *
      generalize w7.heap.size = g8 at *
      have k8 := HK8.out
      have n8 := HN8.out
      have hz8 : (fdC Fld.zero).size = 2 := rfl
      go_wp2_with (first | (refine go_ldg (x := .tmp 10) 24 k8 undF rfl infF hz8 (by rfl) rfl rfl ?_) | (refine go_ldg (x := .tmp 12) 24 n8 undF rfl infF hz8 (by rfl) rfl rfl ?_; refine Hid.out ?_))
      refine Lib.hid ?_
      refine go_eqlF (x := .tmp 62) (y := .tmp 63) (t := 24) Fld.zero Fld.zero true (by decide) rfl (by rfl) rfl rfl ?_
      go_wp2_with fail
      go_ret
      exact ⟨rfl, by rw [HG.out]; exact HL8.out⟩
  | some l0 =>
    have hll := HLl.out l0 hp
    have hpi := HPi.out l0 hp
    have PP := Lib.hid (fun w hE => par_is (N := G) l0 (str l0) rfl (f, 0) hpi hll w hE)
    unfold optT
    clear HLl HPi hp hll hpi
    go_wp2_with fail
    refine (PP.out w3 (HE.out.below HL3.out)).mono ?_
    rintro e w4 ⟨rfl, hb⟩
    have HL4 := Lib.hid (HL3.out.trans (hb.mono HL3g))
    have HK4 := Lib.hid (HK3.out.below hb HK3.out.lt)
    have HL4g : G ≤ w4.heap.size := Nat.le_trans HL3g hb.size
    clear hb PP HL3 HK3
    go_upto_region 7 with (refine go_st 24 (Blk.new _ _ _) infF rfl rfl (fdC_one _) rfl rfl rfl rfl ?_)
    obtain ⟨hk, hb⟩ := st_new w4 f
    have HL5 := Lib.hid (HL4.out.trans (hb.mono HL4g))
    have k5 := HK4.out.below hb HK4.out.lt
    have n5 := hk
    have HL5g : G ≤ ((w4.alloc (.cells #[.string ⟨#[]⟩, .string ⟨#[]⟩] 24)).setRow w4.heap.size (fdC f)).heap.size := Nat.le_trans HL4g hb.size
    clear hk hb HL4 HK4
    generalize (w4.alloc (.cells #[.string ⟨#[]⟩, .string ⟨#[]⟩] 24)).setRow w4.heap.size (fdC f) = w5 at *
    generalize w4.heap.size = g5 at *
    rw [← HC.out] at k5
    have hz5 : (fdC f).size = 2 := rfl
    go_wp2_with (first | (refine go_ldg (x := .tmp 8) 24 n5 undF rfl infF hz5 (by rfl) rfl rfl ?_) | (refine go_ldg (x := .tmp 2) 24 k5 undF rfl infF hz5 (by rfl) rfl rfl ?_; refine Hid.out ?_))
    refine Lib.hid ?_
    refine go_neqF (x := .tmp 48) (y := .tmp 49) (t := 24) f f true (by simp) rfl (by rfl) rfl rfl ?_
    clear k5 n5
    go_wp2_with fail
    refine (PS.out w5 (HE.out.below HL5.out)).mono ?_
    rintro e w6 ⟨rfl, hb⟩
    have HL6 := Lib.hid (HL5.out.trans (hb.mono HL5g))
    have HL6g : G ≤ w6.heap.size := Nat.le_trans HL5g hb.size
    clear hb PS
    go_upto_region 10 with (refine go_st 24 (Blk.new _ _ _) infF rfl rfl (fdC_one _) rfl rfl rfl rfl ?_)
    obtain ⟨hk, hb⟩ := st_new w6 y
    have HL7 := Lib.hid (HL6.out.trans (hb.mono HL6g))
    have HK7 := Lib.hid hk
    clear hk hb HL6
    generalize (w6.alloc (.cells #[.string ⟨#[]⟩, .string ⟨#[]⟩] 24)).setRow w6.heap.size (fdC y) = w7 at *
    generalize w6.heap.size = g7 at *
    have hg7 : G ≤ w7.heap.size := Nat.le_of_lt (Nat.lt_of_le_of_lt HL6g HK7.out.lt)
    by_cases hf : k = 0
    · have HY := Lib.hid (HYp.out hf)
      have HPy := Lib.hid (print_yes HY.out)
      rw [HPy.out] at P2
      rw [HY.out] at P3
      subst hf
      have k7 := HK7.out
      have hz7 : (fdC y).size = 2 := rfl
      clear HNo HYp
      unfold optT at P2
      go_wp2_with (refine go_ldg (x := .tmp 10) 24 k7 undF rfl infF hz7 (by rfl) rfl rfl ?_)
      refine (P2.out w7 (HE.out.below HL7.out)).mono ?_
      rintro e w8 ⟨rfl, hb⟩
      have HL8 := Lib.hid (HL7.out.trans (hb.mono hg7))
      have HK8 := Lib.hid (HK7.out.below hb HK7.out.lt)
      have hg8 : G ≤ w8.heap.size := Nat.le_trans hg7 hb.size
      clear hb k7 P2 HL7 HK7
      go_wp2_with fail
      refine (P3.out w8 (HE.out.below HL8.out)).mono ?_
      rintro e w9 ⟨rfl, hb⟩
      have HL9 := Lib.hid (HL8.out.trans (hb.mono hg8))
      have HK9 := Lib.hid (HK8.out.below hb HK8.out.lt)
      have hg9 : G ≤ w9.heap.size := Nat.le_trans hg8 hb.size
      clear hb P3 HL8 HK8
      go_upto_region 15 with (refine go_st 24 (Blk.new _ _ _) infF rfl rfl (fdC_one _) rfl rfl rfl rfl ?_)
      obtain ⟨hk, hb⟩ := st_new w9 y
      have HL10 := Lib.hid (HL9.out.trans (hb.mono hg9))
      have k10 := HK9.out.below hb HK9.out.lt
      have n10 := hk
      clear hk hb HL9 HK9
      generalize (w9.alloc (.cells #[.string ⟨#[]⟩, .string ⟨#[]⟩] 24)).setRow w9.heap.size (fdC y) = w10 at *
      generalize w9.heap.size = g10 at *
      go_wp2_with (first | (refine go_ldg (x := .tmp 15) 24 n10 undF rfl infF hz7 (by rfl) rfl rfl ?_) | (refine go_ldg (x := .tmp 10) 24 k10 undF rfl infF hz7 (by rfl) rfl rfl ?_; refine Hid.out ?_))
      refine Lib.hid ?_
      refine go_eqlF (x := .tmp 92) (y := .tmp 93) (t := 24) y y true (by simp) rfl (by rfl) rfl rfl ?_
      go_wp2_with fail
      go_ret
      exact ⟨rfl, by rw [HG.out]; exact HL10.out⟩
    · have HZ := HNo.out hf
      subst HZ
      have hb1 : (k != 0) = true := by simp [hf]
      have hd1 : decide (k = 0) = false := by simp [hf]
      clear hf HYp HNo P2 P3
      go_upto_region 12 with fail
      obtain ⟨hk, hb⟩ := al_new w7
      have HL8 := Lib.hid (HL7.out.trans (hb.mono hg7))
      have HK8 := Lib.hid (HK7.out.below hb HK7.out.lt)
      have HN8 := Lib.hid hk
      clear hk hb HL7 HK7
      generalize w7.alloc (.cells #[.string ⟨#[]⟩, .string ⟨#[]⟩] 24) = w8 at *
      generalize w7.heap.size = g8 at *
      have k8 := HK8.out
      have n8 := HN8.out
      have hz8 : (fdC Fld.zero).size = 2 := rfl
      go_wp2_with (first | (refine go_ldg (x := .tmp 10) 24 k8 undF rfl infF hz8 (by rfl) rfl rfl ?_) | (refine go_ldg (x := .tmp 12) 24 n8 undF rfl infF hz8 (by rfl) rfl rfl ?_; refine Hid.out ?_))
      refine Lib.hid ?_
      refine go_eqlF (x := .tmp 62) (y := .tmp 63) (t := 24) Fld.zero Fld.zero true (by decide) rfl (by rfl) rfl rfl ?_
      go_wp2_with fail
      go_ret
      exact ⟨rfl, by rw [HG.out]; exact HL8.out⟩

set_option maxRecDepth 100000 in
set_option linter.unusedVariables false in
theorem lifted (os : Os) (started : os.Started) (H : Type) (enc : TypeId × Value → H) :
    ReturnsInHanded {} Try.checked os 5 .any (Rows.fieldBackSpec.pre6 enc Try.prog Try.f5 Rows.fieldBackRow.domain false) (Rows.fieldBackSpec.post enc Try.prog Try.f5 false true false false) := by
  refine returnsInHanded_of_change_shaped (C := Try.checked) own started (by kernel_rfl) Try.func5
    (ChangeSpec.witness6 (enc := enc) (C := Try.checked) false ⟨#[], #[.agg #[.string .empty, .string .empty], .string .empty], []⟩ 8 (by kernel_rfl) (by kernel_rfl) (by kernel_rfl) (by kernel_rfl)) ?_
  intro W base args ds gs before hval0 hW hcnd hsz0 hshp _
  have hE := env_of hshp
  have hval : ∀ (j : Nat) t v, Try.f5.params[j]? = some t → args[j]? = some v → Value.okWide Try.prog W .any base t v := hval0
  have hW' := hW
  obtain ⟨p, q, hA0, hV, rfl, hfz, hnd⟩ := hW
  have hA : DataW.TrodAll enc Try.prog W 0 (fun _ => true) true Try.f5.params.toList args.toList ds p := hA0
  have hsz : (DataW.weightsEach Try.prog (Try.f5.params.toList ++ Rows.fieldBackSpec.plain.varTypes Try.prog) (ds ++ gs)).all (· ≤ reachBytes) = true := hsz0
  rw [Try.params5] at hA hval hsz
  obtain ⟨v0, vs0, d0, ds0, p0, q0, hargs, rfl, rfl, h0, r0⟩ := trodAll_cons hA
  obtain ⟨v1, vs1, d1, ds1, p1, q1, rfl, rfl, rfl, h1, r1⟩ := trodAll_cons r0
  obtain ⟨rfl, rfl, rfl⟩ := trodAll_nil r1
  obtain rfl : args = #[v0, v1] := by cases args; simp_all
  obtain ⟨rfl, rfl⟩ := trodVars_none hV
  have k0 := h0
  have lt0 : ∀ x ∈ p0, x.block < W.heap.size := by obtain ⟨m, hm⟩ := k0; exact DataW.trod_lt m _ _ _ hm
  obtain ⟨f0, rfl, sf0⟩ := open_field (hval 0 24 v0 rfl rfl) h0 (reach_at hsz (j := 0) (t := 24) rfl rfl)
  have k1 := h1
  have lt1 : ∀ x ∈ p1, x.block < W.heap.size := by obtain ⟨m, hm⟩ := k1; exact DataW.trod_lt m _ _ _ hm
  obtain ⟨s1, rfl, rfl, rfl, hs1⟩ := open_string Try.underlying9 (hval 1 9 v1 rfl rfl) h1
  clear hA0 hval0 hsz0
  refine (walk W f0 sf0 s1 hs1 hE).mono fun e W' ⟨he, bel⟩ => ?_
  subst he
  exact ⟨_, rfl, _, _, _, [], _, [], hW', trodAll_mk1 (shut_bool Try.underlying4 _), (trodAll_cons_mk (Below.trod laidOut (by kernel_rfl) (of_decide_eq_true (by kernel_rfl)) k0 bel lt0) (trodAll_cons_mk (Below.trod laidOut (by kernel_rfl) (of_decide_eq_true (by kernel_rfl)) k1 bel lt1) trodAll_mk0)), rfl, bel.frame _, fun h => by cases h⟩

theorem over : Rows.fieldBackRow.holds Try.pinned (OpenSpec.ofChange Rows.fieldBackSpec) :=
  OpenClaim.holds_of_wide 5 Try.f5 rfl rfl rfl rfl rfl rfl rfl ⟨rfl, rfl, rfl, rfl, rfl⟩ rfl rfl rfl rfl rfl (by kernel_rfl) Try.func5 (by kernel_rfl)
    (of_decide_eq_true (by kernel_rfl)) (by unfold Func.isWrapper; first | (rw [if_pos (by decide +kernel)]; kernel_rfl) | (rw [if_neg (by decide +kernel)]; exact ⟨rfl, rfl⟩))
    (fun os started H enc _ => lifted os started H enc)

theorem proved : Rows.FieldBackSaid := over
#print axioms proved
end Go.Proofs.Ytkbankjnfedkdaa.fieldBack
