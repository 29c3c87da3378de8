/-
  ReqlineBack: what package reqline prints is parsed as it was, and what is parsed is printed as it was; else the small case comes out right. Conditions: none beyond the statement's own.
-/
import Derived.Test.YtnkcloebnlolaaaDoorRlSmall
import Derived.Test.YtnkcloebnlolaaaDoorLiftReq
import Derived.Test.YtnkcloebnlolaaaDoorCards
import Derived.Test.YtnkcloebnlolaaaDoorTie
set_option maxRecDepth 100000
namespace Go.Proofs.YtnkcloebnlolaaaDoor.reqlineBack
open Go.ChangeMaps (open_string shut_string)
open Go.ChangeShapes Go.WideShapes Go.ChangeAt Go.RowKit Go.Proofs.YtnkcloebnlolaaaDoor.Wd Go.Proofs.YtnkcloebnlolaaaDoor.Asc Go.Proofs.YtnkcloebnlolaaaDoor.Tx Go.Proofs.YtnkcloebnlolaaaDoor.St Go.Proofs.YtnkcloebnlolaaaDoor.Rl Go.Proofs.YtnkcloebnlolaaaDoor.Lift

theorem al_new (w : World) : Blk (w.alloc (.cells #[.string ⟨#[]⟩, .string ⟨#[]⟩, .int .i64 0] 23)) w.heap.size 23 (rqC Rq.zero) ∧
    Below w.heap.size w (w.alloc (.cells #[.string ⟨#[]⟩, .string ⟨#[]⟩, .int .i64 0] 23)) := ⟨Blk.new _ _ _, (Below.refl _ _).alloc (Nat.le_refl _) _⟩

set_option linter.unusedSimpArgs false in
set_option maxHeartbeats 8000000 in
theorem walk (W : World) (r : Rq) (m0 : r.meth.length ≤ maxLen) (t0 : r.targ.length ≤ maxLen) (b0 : -9223372036854775808 ≤ r.minor ∧ r.minor ≤ 9223372036854775807) (S : ByteArray) (hS0 : S.size ≤ maxLen) (hE : Env W.heap.size W) :
    Calls Tryd.prog 4 #[.agg (rqC r), .string S] W fun e w' => e = .returned (.bool true) ∧ Below W.heap.size W w' := by
  obtain ⟨k, hk⟩ : ∃ k, r.minor = k := ⟨_, rfl⟩
  have hC : rqC r = #[.string (str r.meth), .string (str r.targ), .int .i64 k] := by rw [← hk]; rfl
  obtain ⟨A, hA⟩ : ∃ A, str r.meth = A := ⟨_, rfl⟩
  obtain ⟨B, hB⟩ : ∃ B, str r.targ = B := ⟨_, rfl⟩
  have zA : A.size = r.meth.length := by rw [← hA, str_size]
  have zB : B.size = r.targ.length := by rw [← hB, str_size]
  have sA : A.size ≤ 9223372036854775807 := by rw [zA]; exact m0
  have sB : B.size ≤ 9223372036854775807 := by rw [zB]; exact t0
  have sS : S.size ≤ 9223372036854775807 := hS0
  rw [hA, hB] at hC
  rw [hC]
  have HC := Lib.hid hC
  have HE := Lib.hid hE
  have HS := Lib.hid (fun w hE => small_any (N := W.heap.size) w hE)
  clear hA hB hC hE hk m0 t0 hS0
  go_enter Tryd.func4, Tryd.ntmps4
  go_upto_region 1 with fail
  have b1 := Blk.new W 23 #[.string A, .string B, .int .i64 k]
  have hbel : Below W.heap.size W (W.alloc (.cells #[.string A, .string B, .int .i64 k] 23)) := (Below.refl _ _).alloc (Nat.le_refl _) _
  generalize W.alloc (.cells #[.string A, .string B, .int .i64 k] 23) = w1 at *
  obtain ⟨G, hG⟩ : ∃ G, W.heap.size = G := ⟨_, rfl⟩
  rw [hG] at b1 hbel HE HS ⊢
  have HG := Lib.hid hG
  have HK1 := Lib.hid b1
  have HL1 := Lib.hid hbel
  clear b1 hbel hG
  go_wp2_with fail
  refine (HS.out w1 (HE.out.below HL1.out)).mono ?_
  rintro e w2 ⟨rfl, hb⟩
  have HK2 := Lib.hid (HK1.out.below hb HK1.out.lt)
  have HL2 := Lib.hid (HL1.out.trans (hb.mono (Nat.le_of_lt HK1.out.lt)))
  have c0 := HK2.out.cell 0
  have c1 := HK2.out.cell 1
  clear hb HS HK1 HL1
  by_cases h1 : 2000 < A.size
  · have i1 : (2000 : Int) < (A.size : Int) := by omega
    go_wp2_with fail
    go_ret
    exact ⟨rfl, by rw [HG.out]; exact HL2.out⟩
  have i1 : ¬ (2000 : Int) < (A.size : Int) := by omega
  by_cases h2 : 9000 < B.size
  · have i2 : (9000 : Int) < (B.size : Int) := by omega
    go_wp2_with fail
    go_ret
    exact ⟨rfl, by rw [HG.out]; exact HL2.out⟩
  have i2 : ¬ (9000 : Int) < (B.size : Int) := by omega
  by_cases h3 : 9000 < S.size
  · have i3 : (9000 : Int) < (S.size : Int) := by omega
    go_wp2_with fail
    go_ret
    exact ⟨rfl, by rw [HG.out]; exact HL2.out⟩
  have i3 : ¬ (9000 : Int) < (S.size : Int) := by omega
  have l1 : r.meth.length ≤ 100000 := by omega
  have l2 : r.targ.length ≤ 100000 := by omega
  have P1 := Lib.hid (fun w hE => print_any (N := G) r w hE l1 l2 b0)
  rw [HC.out] at P1
  have hll : ∀ l, printS r = some l → l.length < 4294967281 := fun l h => by
    have h4 := (parse_ok (print_is h)).1.2.1
    have h5 := (parse_ok (print_is h)).1.2.2.2.1
    have h6 := (parse_ok (print_is h)).1.2.2.2.2
    rw [(parse_ok (print_is h)).2, lineR]
    rcases h6 with h6 | h6
    · rw [h6, itoa0]; simp [lineT, v1]; omega
    · rw [h6, itoa1]; simp [lineT, v1]; omega
  have HLl := Lib.hid hll
  have HPi := Lib.hid (fun l => print_is (r := r) (l := l))
  obtain ⟨y, hy⟩ : ∃ y, (parseS (bs S)).1 = y := ⟨_, rfl⟩
  obtain ⟨f, hf⟩ : ∃ f, (parseS (bs S)).2 = f := ⟨_, rfl⟩
  have hyf : parseS (bs S) = (y, f) := by rw [← hy, ← hf]
  have PS := Lib.hid (fun w hE => par_is (N := G) (bs S) S (str_bs S).symm (y, f) hyf (by rw [bs_length]; omega) w hE)
  have HNo := Lib.hid (fun h : f ≠ 0 => (show y = Rq.zero by rw [← hy]; exact parse_no (by rw [hf]; exact h)))
  have HYe := Lib.hid (fun h : f = 0 => (show printS y = some (bs S) from print_yes (by rw [hf]; exact h) hy))
  have HOk := Lib.hid (fun h : f = 0 => (show okR y from (parse_ok (l := bs S) (r := y) (by rw [hyf, h])).1))
  clear zA zB h1 h2 h3 l1 l2 b0 hll hy hf hyf
  have hz : (#[Value.string A, .string B, .int .i64 k] : Array Value).size = 3 := rfl
  have k2 := HK2.out
  go_wp2_with (refine go_ldg (x := .tmp 2) 23 k2 undR rfl infR hz (by rfl) rfl rfl ?_)
  refine (P1.out w2 (HE.out.below HL2.out)).mono ?_
  rintro e w3 ⟨rfl, hb⟩
  have HK3 := Lib.hid (HK2.out.below hb HK2.out.lt)
  have HL3 := Lib.hid (HL2.out.trans (hb.mono (Nat.le_of_lt HK2.out.lt)))
  clear hb k2 HK2 HL2 P1 c0 c1
  have HL3g : G ≤ w3.heap.size := Nat.le_of_lt HK3.out.lt
  cases hp : printS r with
  | none =>
    unfold optT
    clear HLl HPi hp
    go_wp2_with fail
    refine (PS.out w3 (HE.out.below HL3.out)).mono ?_
    rintro e w6 ⟨rfl, hb⟩
    have HL6 := Lib.hid (HL3.out.trans (hb.mono HL3g))
    have HL6g : G ≤ w6.heap.size := Nat.le_trans HL3g hb.size
    clear hb PS
    go_upto_region 10 with (refine go_st 23 (Blk.new _ _ _) infR rfl rfl (rqC_one _) rfl rfl rfl rfl ?_)
    obtain ⟨hk, hb⟩ := st_new w6 y
    have HL7 := Lib.hid (HL6.out.trans (hb.mono HL6g))
    have HK7 := Lib.hid hk
    clear hk hb HL6
    generalize (w6.alloc (.cells #[.string ⟨#[]⟩, .string ⟨#[]⟩, .int .i64 0] 23)).setRow w6.heap.size (rqC y) = w7 at *
    generalize w6.heap.size = g7 at *
    have hg7 : G ≤ w7.heap.size := Nat.le_of_lt (Nat.lt_of_le_of_lt HL6g HK7.out.lt)
    by_cases hf : f = 0
    · have HY := Lib.hid (HYe.out hf)
      have HO := Lib.hid (HOk.out hf)
      subst hf
      have k7 := HK7.out
      have hz7 : (rqC y).size = 3 := rfl
      have l1 : y.meth.length ≤ 100000 := by have := HO.out.2.1; omega
      have l2 : y.targ.length ≤ 100000 := by have := HO.out.2.2.2.1; omega
      have l3 : -9223372036854775808 ≤ y.minor ∧ y.minor ≤ 9223372036854775807 := by rcases HO.out.2.2.2.2 with h | h <;> rw [h] <;> decide
      have P2 := Lib.hid (fun w hE => print_any (N := G) y w hE l1 l2 l3)
      rw [HY.out] at P2
      have hSS : optT (some (bs S)) = .tuple #[.string S, .bool true] := by rw [optT, str_bs]
      rw [hSS] at P2
      have eS : (S.toList == S.toList) = true := by simp
      clear l1 l2 l3 hSS HNo
      go_wp2_with (refine go_ldg (x := .tmp 10) 23 k7 undR rfl infR hz7 (by rfl) rfl rfl ?_)
      refine (P2.out w7 (HE.out.below HL7.out)).mono ?_
      rintro e w8 ⟨rfl, hb⟩
      have HL8 := Lib.hid (HL7.out.trans (hb.mono hg7))
      clear hb k7 P2
      go_wp2_with fail
      go_ret
      exact ⟨rfl, by rw [HG.out]; exact HL8.out⟩
    · have HZ := HNo.out hf
      subst HZ
      have hb1 : (f != 0) = true := by simp [hf]
      have hd1 : decide (f = 0) = false := by simp [hf]
      clear hf HYe HOk HNo
      go_upto_region 12 with fail
      obtain ⟨hk, hb⟩ := al_new w7
      have HL8 := Lib.hid (HL7.out.trans (hb.mono hg7))
      have HK8 := Lib.hid (HK7.out.below hb HK7.out.lt)
      have HN8 := Lib.hid hk
      clear hk hb HL7 HK7
      generalize w7.alloc (.cells #[.string ⟨#[]⟩, .string ⟨#[]⟩, .int .i64 0] 23) = w8 at *
      generalize w7.heap.size = g8 at *
      have k8 := HK8.out
      have n8 := HN8.out
      have hz8 : (rqC Rq.zero).size = 3 := rfl
      go_wp2_with (first | (refine go_ldg (x := .tmp 10) 23 k8 undR rfl infR hz8 (by rfl) rfl rfl ?_) | (refine go_ldg (x := .tmp 12) 23 n8 undR rfl infR hz8 (by rfl) rfl rfl ?_; refine Hid.out ?_))
      refine Lib.hid ?_
      refine go_eqlR (x := .tmp 60) (y := .tmp 61) (t := 23) Rq.zero Rq.zero true (by decide) rfl (by rfl) rfl rfl ?_
      go_wp2_with fail
      go_ret
      exact ⟨rfl, by rw [HG.out]; exact HL8.out⟩
  | some l0 =>
    have hll := HLl.out l0 hp
    have hpi := HPi.out l0 hp
    have PP := Lib.hid (fun w hE => par_is (N := G) l0 (str l0) rfl (r, 0) hpi hll w hE)
    unfold optT
    clear HLl HPi hp hll hpi
    go_wp2_with fail
    refine (PP.out w3 (HE.out.below HL3.out)).mono ?_
    rintro e w4 ⟨rfl, hb⟩
    have HL4 := Lib.hid (HL3.out.trans (hb.mono HL3g))
    have HL4g : G ≤ w4.heap.size := Nat.le_trans HL3g hb.size
    have HK4 := Lib.hid (show Blk w4 G 23 (rqC r) by rw [HC.out]; exact HK3.out.below hb HK3.out.lt)
    clear hb PP HK3 HL3
    go_upto_region 7 with (refine go_st 23 (Blk.new _ _ _) infR rfl rfl (rqC_one _) rfl rfl rfl rfl ?_)
    obtain ⟨hk, hb⟩ := st_new w4 r
    have HL5 := Lib.hid (HL4.out.trans (hb.mono HL4g))
    have HK5 := Lib.hid (HK4.out.below hb HK4.out.lt)
    have HN5 := Lib.hid hk
    have HL5g : G ≤ ((w4.alloc (.cells #[.string ⟨#[]⟩, .string ⟨#[]⟩, .int .i64 0] 23)).setRow w4.heap.size (rqC r)).heap.size := Nat.le_trans HL4g hb.size
    clear hk hb HL4 HK4
    generalize (w4.alloc (.cells #[.string ⟨#[]⟩, .string ⟨#[]⟩, .int .i64 0] 23)).setRow w4.heap.size (rqC r) = w5 at *
    generalize w4.heap.size = g5 at *
    have k5 := HK5.out
    have n5 := HN5.out
    have hz5 : (rqC r).size = 3 := rfl
    go_wp2_with (first | (refine go_ldg (x := .tmp 8) 23 n5 undR rfl infR hz5 (by rfl) rfl rfl ?_) | (refine go_ldg (x := .tmp 2) 23 k5 undR rfl infR hz5 (by rfl) rfl rfl ?_; refine Hid.out ?_))
    refine Lib.hid ?_
    refine go_neqR (x := .tmp 46) (y := .tmp 47) (t := 23) r r true (by simp) rfl (by rfl) rfl rfl ?_
    clear k5 n5 HK5 HN5
    go_wp2_with fail
    refine (PS.out w5 (HE.out.below HL5.out)).mono ?_
    rintro e w6 ⟨rfl, hb⟩
    have HL6 := Lib.hid (HL5.out.trans (hb.mono HL5g))
    have HL6g : G ≤ w6.heap.size := Nat.le_trans HL5g hb.size
    clear hb PS
    go_upto_region 10 with (refine go_st 23 (Blk.new _ _ _) infR rfl rfl (rqC_one _) rfl rfl rfl rfl ?_)
    obtain ⟨hk, hb⟩ := st_new w6 y
    have HL7 := Lib.hid (HL6.out.trans (hb.mono HL6g))
    have HK7 := Lib.hid hk
    clear hk hb HL6
    generalize (w6.alloc (.cells #[.string ⟨#[]⟩, .string ⟨#[]⟩, .int .i64 0] 23)).setRow w6.heap.size (rqC y) = w7 at *
    generalize w6.heap.size = g7 at *
    have hg7 : G ≤ w7.heap.size := Nat.le_of_lt (Nat.lt_of_le_of_lt HL6g HK7.out.lt)
    by_cases hf : f = 0
    · have HY := Lib.hid (HYe.out hf)
      have HO := Lib.hid (HOk.out hf)
      subst hf
      have k7 := HK7.out
      have hz7 : (rqC y).size = 3 := rfl
      have l1 : y.meth.length ≤ 100000 := by have := HO.out.2.1; omega
      have l2 : y.targ.length ≤ 100000 := by have := HO.out.2.2.2.1; omega
      have l3 : -9223372036854775808 ≤ y.minor ∧ y.minor ≤ 9223372036854775807 := by rcases HO.out.2.2.2.2 with h | h <;> rw [h] <;> decide
      have P2 := Lib.hid (fun w hE => print_any (N := G) y w hE l1 l2 l3)
      rw [HY.out] at P2
      have hSS : optT (some (bs S)) = .tuple #[.string S, .bool true] := by rw [optT, str_bs]
      rw [hSS] at P2
      have eS : (S.toList == S.toList) = true := by simp
      clear l1 l2 l3 hSS HNo
      go_wp2_with (refine go_ldg (x := .tmp 10) 23 k7 undR rfl infR hz7 (by rfl) rfl rfl ?_)
      refine (P2.out w7 (HE.out.below HL7.out)).mono ?_
      rintro e w8 ⟨rfl, hb⟩
      have HL8 := Lib.hid (HL7.out.trans (hb.mono hg7))
      clear hb k7 P2
      go_wp2_with fail
      go_ret
      exact ⟨rfl, by rw [HG.out]; exact HL8.out⟩
    · have HZ := HNo.out hf
      subst HZ
      have hb1 : (f != 0) = true := by simp [hf]
      have hd1 : decide (f = 0) = false := by simp [hf]
      clear hf HYe HOk HNo
      go_upto_region 12 with fail
      obtain ⟨hk, hb⟩ := al_new w7
      have HL8 := Lib.hid (HL7.out.trans (hb.mono hg7))
      have HK8 := Lib.hid (HK7.out.below hb HK7.out.lt)
      have HN8 := Lib.hid hk
      clear hk hb HL7 HK7
      generalize w7.alloc (.cells #[.string ⟨#[]⟩, .string ⟨#[]⟩, .int .i64 0] 23) = w8 at *
      generalize w7.heap.size = g8 at *
      have k8 := HK8.out
      have n8 := HN8.out
      have hz8 : (rqC Rq.zero).size = 3 := rfl
      go_wp2_with (first | (refine go_ldg (x := .tmp 10) 23 k8 undR rfl infR hz8 (by rfl) rfl rfl ?_) | (refine go_ldg (x := .tmp 12) 23 n8 undR rfl infR hz8 (by rfl) rfl rfl ?_; refine Hid.out ?_))
      refine Lib.hid ?_
      refine go_eqlR (x := .tmp 60) (y := .tmp 61) (t := 23) Rq.zero Rq.zero true (by decide) rfl (by rfl) rfl rfl ?_
      go_wp2_with fail
      go_ret
      exact ⟨rfl, by rw [HG.out]; exact HL8.out⟩

set_option maxRecDepth 100000 in
set_option linter.unusedVariables false in
theorem lifted (os : Os) (started : os.Started) (H : Type) (enc : TypeId × Value → H) :
    ReturnsInHanded {} Tryd.checked os 4 .any (fun w args => (Rows.reqlineBackSpec.pre enc Tryd.prog Tryd.f4 [] false w args ∧ laidMetH Tryd.prog laid3 w) ∧ sizedMet enc Tryd.prog Tryd.f4 (OpenSpec.ofChange Rows.reqlineBackSpec) false w args)
      (Rows.reqlineBackSpec.post enc Tryd.prog Tryd.f4 false true false false) := by
  refine returns_laid (C := Tryd.checked) (X := fun w _ => laidMetH Tryd.prog laid3 w) (fun _ _ _ hh h => h.of_heap hh) own started (by kernel_rfl) Tryd.func4
    (ChangeSpec.witness_shaped (enc := enc) (C := Tryd.checked) (os := os) (X := fun w _ => laidMetH Tryd.prog laid3 w) false (World.doorLaid Tryd.prog 24 os) #[.agg #[.string .empty, .string .empty, .int .i64 0], .string .empty] 8 rfl (World.shaped_of_RefB (by kernel_rfl) (by kernel_rfl)) (by kernel_rfl) (by kernel_rfl) (by kernel_rfl) (door_met os _)) ?_
  intro W base args ds gs before hval0 hW hL hshp
  have hE := env_of hL hshp
  have hval : ∀ (j : Nat) t v, Tryd.f4.params[j]? = some t → args[j]? = some v → Value.okWide Tryd.prog W .any base t v := hval0
  have hW' := hW
  obtain ⟨p, q, hA0, hV, rfl, hfz, hnd⟩ := hW
  have hA : DataW.TrodAll enc Tryd.prog W 0 (fun _ => true) true Tryd.f4.params.toList args.toList ds p := hA0
  rw [Tryd.params4] at hA hval
  obtain ⟨v0, vs0, d0, ds0, p0, q0, hargs, rfl, rfl, h0, r0⟩ := trodAll_cons hA
  obtain ⟨v1, vs1, d1, ds1, p1, q1, rfl, rfl, rfl, h1, r1⟩ := trodAll_cons r0
  obtain ⟨rfl, rfl, rfl⟩ := trodAll_nil r1
  obtain rfl : args = #[v0, v1] := by cases args; simp_all
  obtain ⟨rfl, rfl⟩ := trodVars_none hV
  have k0 := h0
  have lt0 : ∀ x ∈ p0, x.block < W.heap.size := by obtain ⟨m, hm⟩ := k0; exact DataW.trod_lt m _ _ _ hm
  obtain ⟨a0, rfl, m0, t0, b0⟩ := open_request (hval 0 23 v0 rfl rfl) h0
  have k1 := h1
  have lt1 : ∀ x ∈ p1, x.block < W.heap.size := by obtain ⟨m, hm⟩ := k1; exact DataW.trod_lt m _ _ _ hm
  obtain ⟨s1, rfl, rfl, rfl, hs1⟩ := open_string Tryd.underlying9 (hval 1 9 v1 rfl rfl) h1
  clear hA0 hval0
  refine (walk W a0 m0 t0 b0 s1 hs1 hE).mono fun e W' ⟨he, bel⟩ => ?_
  subst he
  exact ⟨_, rfl, _, _, _, [], _, [], hW', trodAll_mk1 (shut_bool Tryd.underlying4 _), (trodAll_cons_mk (Below.trod Lift.laidOut (by kernel_rfl) (of_decide_eq_true (by kernel_rfl)) k0 bel lt0) (trodAll_cons_mk (Below.trod Lift.laidOut (by kernel_rfl) (of_decide_eq_true (by kernel_rfl)) k1 bel lt1) trodAll_mk0)), rfl, bel.frame _, fun h => by cases h⟩

theorem over : Rows.reqlineBackRow.holds Tryd.pinned (OpenSpec.ofChange Rows.reqlineBackSpec) :=
  OpenClaim.holds_of_wide 4 Tryd.f4 rfl rfl rfl rfl rfl rfl rfl ⟨rfl, rfl, rfl, rfl, rfl⟩ rfl rfl rfl rfl rfl (by kernel_rfl) Tryd.func4 (by kernel_rfl)
    (of_decide_eq_true (by kernel_rfl)) (by unfold Func.isWrapper; first | (rw [if_pos (by decide +kernel)]; kernel_rfl) | (rw [if_neg (by decide +kernel)]; exact ⟨rfl, rfl⟩))
    (fun os started H enc _ => lifted os started H enc)

theorem proved : Rows.ReqlineBackCardSaid :=
  Claim7.holds_tied_plain_at .later [] [.data, .data, .data] true (true, "6cf545e2bb98b62287d2de85b61d76cc33adb4d7a6870d89833e676b30f47edb") false
    over (fun _ h => by cases h) (by kernel_rfl) (fun _ h => by cases h) reqlineBack_row_tie rfl ⟨rfl, rfl⟩ (by kernel_rfl) rfl
    (fun f fn hf hfn => by
      obtain rfl : f = 4 := Option.some.inj ((show Tryd.prog.funcNamed "hagioscope/hagioscopelaw11.ReqlineBack" = some 4 by kernel_rfl).symm.trans hf) |>.symm
      obtain rfl : fn = Tryd.f4 := (Option.some.inj (Tryd.func4.symm.trans hfn)).symm
      exact ⟨by kernel_rfl, fun j t ht => by
        rw [Tryd.params4] at ht
        have hm : t ∈ [23, 9] := by simpa using Array.mem_of_getElem? ht
        have hall : ([23, 9].all fun u => !Tryd.prog.wantsStandIn u) = true := by kernel_rfl
        exact (show Tryd.prog.wantsStandIn t = false by simpa using List.all_eq_true.1 hall t hm)⟩)
    (by kernel_rfl)
#print axioms proved
end Go.Proofs.YtnkcloebnlolaaaDoor.reqlineBack
