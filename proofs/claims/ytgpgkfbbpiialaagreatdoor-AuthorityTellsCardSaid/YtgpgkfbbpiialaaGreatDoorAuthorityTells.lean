/-
  AuthorityTells: package authority prints a host and a port, and tells which host a request is for, as the document's own functions do; else the small case comes out right. Conditions: none beyond the statement's own.
-/
import Derived.Test.YtgpgkfbbpiialaaGreatDoorAuSmall
import Derived.Test.YtgpgkfbbpiialaaGreatDoorMPr
import Derived.Test.YtgpgkfbbpiialaaGreatDoorMOf
import Derived.Test.YtgpgkfbbpiialaaGreatDoorMLi
import Derived.Test.YtgpgkfbbpiialaaGreatDoorLiftFld
import Derived.Test.YtgpgkfbbpiialaaGreatDoorLiftReq
import Derived.Test.YtgpgkfbbpiialaaGreatDoorCards
import Derived.Test.YtgpgkfbbpiialaaGreatDoorTie
set_option maxRecDepth 100000
namespace Go.Proofs.YtgpgkfbbpiialaaGreatDoor.authorityTells
open Go.ChangeMaps (open_string shut_string)
open Go.ChangeShapes Go.WideShapes Go.ChangeAt Go.RowKit Go.Proofs.YtgpgkfbbpiialaaGreatDoor.Wd Go.Proofs.YtgpgkfbbpiialaaGreatDoor.Asc Go.Proofs.YtgpgkfbbpiialaaGreatDoor.Tx Go.Proofs.YtgpgkfbbpiialaaGreatDoor.St Go.Proofs.YtgpgkfbbpiialaaGreatDoor.Au Go.Proofs.YtgpgkfbbpiialaaGreatDoor.Lift

set_option linter.unusedSimpArgs false in
set_option maxHeartbeats 16000000 in
theorem walk (W : World) (S : ByteArray) (hS0 : S.size ≤ maxLen) (p : Int) (hp : -9223372036854775808 ≤ p ∧ p ≤ 9223372036854775807) (r : Rl.Rq) (m0 : r.meth.length ≤ maxLen) (t0 : r.targ.length ≤ maxLen) (_ : -9223372036854775808 ≤ r.minor ∧ r.minor ≤ 9223372036854775807)
    (A : Option Addr) (n cap : Nat) (l : List Fd.Fld) (le0 : n ≤ cap) (mx : cap ≤ maxLen) (hln : l.length = n) (hsl : ∀ f ∈ l, ShortF maxLen f) (hsrc : Fd.SrcF W A l) (hE : Ad.Env W.heap.size W) :
    Calls Tryz.prog 3 #[.string S, .int .i64 p, .agg (Rl.rqC r), .slice A n cap] W fun e w' => e = .returned (.bool true) ∧ Below W.heap.size W w' := by
  obtain ⟨k, hk⟩ : ∃ k, r.minor = k := ⟨_, rfl⟩
  have hC : Rl.rqC r = #[.string (str r.meth), .string (str r.targ), .int .i64 k] := by rw [← hk]; rfl
  obtain ⟨X, hX⟩ : ∃ X, str r.meth = X := ⟨_, rfl⟩
  obtain ⟨Y, hY⟩ : ∃ Y, str r.targ = Y := ⟨_, rfl⟩
  have zX : X.size = r.meth.length := by rw [← hX, str_size]
  have zY : Y.size = r.targ.length := by rw [← hY, str_size]
  have sX : X.size ≤ 9223372036854775807 := by rw [zX]; exact m0
  have sY : Y.size ≤ 9223372036854775807 := by rw [zY]; exact t0
  have sS : S.size ≤ 9223372036854775807 := hS0
  have sn : n ≤ 9223372036854775807 := Nat.le_trans le0 mx
  rw [hX, hY] at hC
  rw [hC]
  have HC := Lib.hid hC
  have HE := Lib.hid hE
  have HS := Lib.hid (fun w hE => small_any (B := W.heap.size) w hE)
  have HSrc := Lib.hid hsrc
  have HN := Lib.hid hln
  have HSl := Lib.hid hsl
  clear hE hS0 le0 mx hsrc hln hsl m0 t0 hk hX hY hC zX
  go_enter Tryz.func3, Tryz.ntmps3
  go_upto_region 1 with fail
  have b1 := Blk.new W 23 #[.string X, .string Y, .int .i64 k]
  have hbel : Below W.heap.size W (W.alloc (.cells #[.string X, .string Y, .int .i64 k] 23)) := (Below.refl _ _).alloc (Nat.le_refl _) _
  generalize W.alloc (.cells #[.string X, .string Y, .int .i64 k] 23) = w1 at *
  obtain ⟨G, hG⟩ : ∃ G, W.heap.size = G := ⟨_, rfl⟩
  have HSrc1 := Lib.hid (HSrc.out.below hbel)
  rw [hG] at b1 hbel HE HS ⊢
  have HG := Lib.hid hG
  have HK1 := Lib.hid b1
  have HL1 := Lib.hid hbel
  clear b1 hbel hG HSrc
  go_wp2_with fail
  refine (HS.out w1 (HE.out.below HL1.out)).mono ?_
  rintro e w2 ⟨rfl, hb⟩
  have HK2 := Lib.hid (HK1.out.below hb HK1.out.lt)
  have HL2 := Lib.hid (HL1.out.trans (hb.mono (Nat.le_of_lt HK1.out.lt)))
  have HSr := Lib.hid (HSrc1.out.below hb)
  have c0 := HK2.out.cell 0
  have c1 := HK2.out.cell 1
  clear hb HS HK1 HL1 HSrc1
  by_cases h1 : 1000 < S.size
  · have i1 : (1000 : Int) < (S.size : Int) := by omega
    go_wp2_with fail
    go_ret
    exact ⟨rfl, by rw [HG.out]; exact HL2.out⟩
  have i1 : ¬ (1000 : Int) < (S.size : Int) := by omega
  by_cases h2 : 1000 < X.size
  · have i2 : (1000 : Int) < (X.size : Int) := by omega
    go_wp2_with fail
    go_ret
    exact ⟨rfl, by rw [HG.out]; exact HL2.out⟩
  have i2 : ¬ (1000 : Int) < (X.size : Int) := by omega
  by_cases h3 : 2000 < Y.size
  · have i3 : (2000 : Int) < (Y.size : Int) := by omega
    go_wp2_with fail
    go_ret
    exact ⟨rfl, by rw [HG.out]; exact HL2.out⟩
  have i3 : ¬ (2000 : Int) < (Y.size : Int) := by omega
  by_cases h4 : 50 < n
  · have i4 : (50 : Int) < (n : Int) := by omega
    go_wp2_with fail
    go_ret
    exact ⟨rfl, by rw [HG.out]; exact HL2.out⟩
  have i4 : ¬ (50 : Int) < (n : Int) := by omega
  have l2 : r.targ.length ≤ 1000000 := by omega
  clear h1 h2 h3 h4 zY
  go_wp2_with fail
  go_loop [10] (fun x => ∃ j : Nat, x = .int .i64 j ∧ j ≤ n ∧ Hid (∀ f ∈ l.take j, f.text.length ≤ 500)) (fun x => n - (intOf x).toNat)
  case atStart => exact ⟨0, rfl, Nat.zero_le _, Lib.hid (by simp)⟩
  case round =>
    obtain ⟨j, rfl, hj, HF⟩ := hrel
    by_cases hlt : j < n
    · have hji : (j : Int) < (n : Int) := by omega
      obtain ⟨f, g, o, hf, rfl, hgw, h0, h1⟩ := HSr.out.get (k := j) (by rw [HN.out]; exact hlt) (Below.refl _ _)
      have HFj := Lib.hid hf
      obtain ⟨P, hP⟩ : ∃ P, str f.name = P := ⟨_, rfl⟩
      obtain ⟨T, hT⟩ : ∃ T, str f.text = T := ⟨_, rfl⟩
      have zT : T.size = f.text.length := by rw [← hT, str_size]
      have sP : P.size ≤ 9223372036854775807 := by rw [← hP, str_size]; exact (HSl.out f (List.mem_of_getElem? hf)).1
      have sT : T.size ≤ 9223372036854775807 := by rw [zT]; exact (HSl.out f (List.mem_of_getElem? hf)).2
      rw [hP] at h0
      rw [hT] at h1
      clear hf hP hT
      by_cases a1 : 300 < P.size
      · have i5 : (300 : Int) < (P.size : Int) := by omega
        go_wp2_with fail
        go_ret
        exact ⟨rfl, by rw [HG.out]; exact HL2.out⟩
      have i5 : ¬ (300 : Int) < (P.size : Int) := by omega
      by_cases a2 : 500 < T.size
      · have i6 : (500 : Int) < (T.size : Int) := by omega
        go_wp2_with fail
        go_ret
        exact ⟨rfl, by rw [HG.out]; exact HL2.out⟩
      have i6 : ¬ (500 : Int) < (T.size : Int) := by omega
      have HF2 : Hid (∀ f ∈ l.take (j + 1), f.text.length ≤ 500) := Lib.hid (fun f' hf' => by
        rw [Fd.take_snoc HFj.out, List.mem_append, List.mem_singleton] at hf'
        rcases hf' with hf' | rfl
        · exact HF.out f' hf'
        · omega)
      clear a1 a2 zT
      go_wp2_with fail
      go_round
      case rel => exact ⟨j + 1, by go_num, hlt, HF2⟩
      case measure => simp [intOf]; omega
    · have hji : ¬ (j : Int) < (n : Int) := by omega
      have hM : (Fd.findS hostN l).1.length ≤ 1000000 := by
        have h := HF.out
        rw [List.take_of_length_le (by rw [HN.out]; omega)] at h
        rcases Fd.find_mem (nm := hostN) (l := l) with hm | ⟨f, hf, hm⟩
        · rw [hm]; exact Nat.zero_le _
        · rw [← hm]; exact Nat.le_trans (h f hf) (by decide)
      have hn6 : n ≤ 1000000 := by omega
      go_upto_region 9 with fail
      clear HF hji hlt
      have P1 := Lib.hid (fun w hE => print_any (B := G) S p w hE (by omega) hp)
      have P2 := Lib.hid (fun w => rprint_any S p w (by omega) hp)
      rw [Rl.opt_str] at P1 P2
      generalize Rl.optS (printS (bs S) p) = T at *
      generalize (printS (bs S) p).isSome = b at *
      have O1 := Lib.hid (fun w hE hs => of_any (B := G) r l A n cap w hE hs HN.out hn6 l2 hM)
      have O2 := Lib.hid (fun w hs => rof_any r l A n cap w hs HN.out hn6 l2 hM)
      obtain ⟨q, hq⟩ : ∃ q, ofS r l = q := ⟨_, rfl⟩
      rw [hq, HC.out] at O1 O2
      obtain ⟨h, y, e⟩ := q
      unfold ResP resT at O1 O2
      simp only at O1 O2
      obtain ⟨H, hH⟩ : ∃ H, str h = H := ⟨_, rfl⟩
      rw [hH] at O1 O2
      have e1 : (T.toList == T.toList) = true := by simp
      have e2 : (b == b) = true := by simp
      have e3 : (H.toList == H.toList) = true := by simp
      have e4 : (y == y) = true := by simp
      have e5 : (e == e) = true := by simp
      clear hM hn6 l2 hq hH HSl hp
      go_wp2_with fail
      refine (P1.out w2 (HE.out.below HL2.out)).mono ?_
      rintro e' w3 ⟨rfl, hb⟩
      have HK3 := Lib.hid (HK2.out.below hb HK2.out.lt)
      have HL3 := Lib.hid (HL2.out.trans (hb.mono (Nat.le_of_lt HK2.out.lt)))
      have HS3 := Lib.hid (HSr.out.below hb)
      clear hb P1 HK2 HL2 HSr c0 c1
      go_wp2_with fail
      refine (P2.out w3).mono ?_
      rintro e' w4 ⟨rfl, hb⟩
      have HK4 := Lib.hid (HK3.out.below hb HK3.out.lt)
      have HL4 := Lib.hid (HL3.out.trans (hb.mono (Nat.le_of_lt HK3.out.lt)))
      have HS4 := Lib.hid (HS3.out.below hb)
      have k4 := HK4.out
      clear hb P2 HK3 HL3 HS3
      have hz : (#[Value.string X, .string Y, .int .i64 k] : Array Value).size = 3 := rfl
      go_wp2_with (refine go_ld 23 k4 Rl.undR rfl Rl.infR hz rfl rfl rfl ?_)
      refine (O1.out w4 (HE.out.below HL4.out) HS4.out).mono ?_
      rintro e' w5 ⟨rfl, hb⟩
      have HK5 := Lib.hid (HK4.out.below hb HK4.out.lt)
      have HL5 := Lib.hid (HL4.out.trans (hb.mono (Nat.le_of_lt HK4.out.lt)))
      have HS5 := Lib.hid (HS4.out.below hb)
      have k5 := HK5.out
      clear hb O1 HK4 HL4 HS4 k4
      go_wp2_with (refine go_ld 23 k5 Rl.undR rfl Rl.infR hz rfl rfl rfl ?_)
      refine (O2.out w5 HS5.out).mono ?_
      rintro e' w6 ⟨rfl, hb⟩
      have HL6 := Lib.hid (HL5.out.trans (hb.mono (Nat.le_of_lt HK5.out.lt)))
      clear hb O2 HK5 HL5 HS5 k5
      go_wp2_with fail
      go_ret
      exact ⟨rfl, by rw [HG.out]; exact HL6.out⟩

set_option maxRecDepth 100000 in
set_option linter.unusedVariables false in
theorem lifted (os : Os) (started : os.Started) (H : Type) (enc : TypeId × Value → H) :
    ReturnsInHanded {} Tryz.checked os 3 .any (fun w args => (Rows.authorityTellsSpec.pre enc Tryz.prog Tryz.f3 [] false w args ∧ laidMetH Tryz.prog laid3 w) ∧ sizedMet enc Tryz.prog Tryz.f3 (OpenSpec.ofChange Rows.authorityTellsSpec) false w args)
      (Rows.authorityTellsSpec.post enc Tryz.prog Tryz.f3 false true false false) := by
  refine returns_laid (C := Tryz.checked) (X := fun w _ => laidMetH Tryz.prog laid3 w) (fun _ _ _ hh h => h.of_heap hh) own started (by kernel_rfl) Tryz.func3
    (ChangeSpec.witness_shaped (enc := enc) (C := Tryz.checked) (os := os) (X := fun w _ => laidMetH Tryz.prog laid3 w) false (World.doorLaid Tryz.prog 24 os) #[.string .empty, .int .i64 0, .agg #[.string .empty, .string .empty, .int .i64 0], .slice none 0 0] 8 rfl (World.shaped_of_RefB (by kernel_rfl) (by kernel_rfl)) (by kernel_rfl) (by kernel_rfl) (by kernel_rfl) (door_met os _)) ?_
  intro W base args ds gs before hval0 hW hL hshp
  have hE := env_of hL hshp
  have hval : ∀ (j : Nat) t v, Tryz.f3.params[j]? = some t → args[j]? = some v → Value.okWide Tryz.prog W .any base t v := hval0
  have hW' := hW
  obtain ⟨p, q, hA0, hV, rfl, hfz, hnd⟩ := hW
  have hA : DataW.TrodAll enc Tryz.prog W 0 (fun _ => true) true Tryz.f3.params.toList args.toList ds p := hA0
  rw [Tryz.params3] at hA hval
  obtain ⟨v0, vs0, d0, ds0, p0, q0, hargs, rfl, rfl, h0, r0⟩ := trodAll_cons hA
  obtain ⟨v1, vs1, d1, ds1, p1, q1, rfl, rfl, rfl, h1, r1⟩ := trodAll_cons r0
  obtain ⟨v2, vs2, d2, ds2, p2, q2, rfl, rfl, rfl, h2, r2⟩ := trodAll_cons r1
  obtain ⟨v3, vs3, d3, ds3, p3, q3, rfl, rfl, rfl, h3, r3⟩ := trodAll_cons r2
  obtain ⟨rfl, rfl, rfl⟩ := trodAll_nil r3
  obtain rfl : args = #[v0, v1, v2, v3] := by cases args; simp_all
  obtain ⟨rfl, rfl⟩ := trodVars_none hV
  have k0 := h0
  have lt0 : ∀ x ∈ p0, x.block < W.heap.size := by obtain ⟨m, hm⟩ := k0; exact DataW.trod_lt m _ _ _ hm
  obtain ⟨s0, rfl, rfl, rfl, hs0⟩ := open_string Tryz.underlying9 (hval 0 9 v0 rfl rfl) h0
  have k1 := h1
  have lt1 : ∀ x ∈ p1, x.block < W.heap.size := by obtain ⟨m, hm⟩ := k1; exact DataW.trod_lt m _ _ _ hm
  obtain ⟨a1, rfl, rfl, rfl, w1⟩ := open_int Tryz.underlying3 (hval 1 3 v1 rfl rfl) h1
  have b1 := int_of w1
  have k2 := h2
  have lt2 : ∀ x ∈ p2, x.block < W.heap.size := by obtain ⟨m, hm⟩ := k2; exact DataW.trod_lt m _ _ _ hm
  obtain ⟨a2, rfl, m2, t2, b2⟩ := open_request (hval 2 23 v2 rfl rfl) h2
  have k3 := h3
  have lt3 : ∀ x ∈ p3, x.block < W.heap.size := by obtain ⟨m, hm⟩ := k3; exact DataW.trod_lt m _ _ _ hm
  obtain ⟨A3, n3, cap3, l3, rfl, le3, mx3, ln3, sl3, src3⟩ := open_fields_any (hval 3 24 v3 rfl rfl) h3
  clear hA0 hval0
  refine (walk W s0 hs0 a1 b1 a2 m2 t2 b2 A3 n3 cap3 l3 le3 mx3 ln3 sl3 src3 hE).mono fun e W' ⟨he, bel⟩ => ?_
  subst he
  exact ⟨_, rfl, _, _, _, [], _, [], hW', trodAll_mk1 (shut_bool Tryz.underlying4 _), (trodAll_cons_mk (Below.trod Lift.laidOut (by kernel_rfl) (of_decide_eq_true (by kernel_rfl)) k0 bel lt0) (trodAll_cons_mk (Below.trod Lift.laidOut (by kernel_rfl) (of_decide_eq_true (by kernel_rfl)) k1 bel lt1) (trodAll_cons_mk (Below.trod Lift.laidOut (by kernel_rfl) (of_decide_eq_true (by kernel_rfl)) k2 bel lt2) (trodAll_cons_mk (Below.trod Lift.laidOut (by kernel_rfl) (of_decide_eq_true (by kernel_rfl)) k3 bel lt3) trodAll_mk0)))), rfl, bel.frame _, fun h => by cases h⟩

theorem over : Rows.authorityTellsRow.holds Tryz.pinned (OpenSpec.ofChange Rows.authorityTellsSpec) :=
  OpenClaim.holds_of_wide 3 Tryz.f3 rfl rfl rfl rfl rfl rfl rfl ⟨rfl, rfl, rfl, rfl, rfl⟩ rfl rfl rfl rfl rfl (by kernel_rfl) Tryz.func3 (by kernel_rfl)
    (of_decide_eq_true (by kernel_rfl)) (by unfold Func.isWrapper; first | (rw [if_pos (by decide +kernel)]; kernel_rfl) | (rw [if_neg (by decide +kernel)]; exact ⟨rfl, rfl⟩))
    (fun os started H enc _ => lifted os started H enc)

theorem proved : Rows.AuthorityTellsCardSaid :=
  Claim7.holds_tied_plain_at .later [] [.data, .data, .data] true (true, "933d32857893a4d9d27cbd963cd5e91c99da8d291ff576840efc41c457163cdc") false
    over (fun _ h => by cases h) (by kernel_rfl) (fun _ h => by cases h) authorityTells_row_tie rfl ⟨rfl, rfl⟩ (by kernel_rfl) rfl
    (fun f fn hf hfn => by
      obtain rfl : f = 3 := Option.some.inj ((show Tryz.prog.funcNamed "hagioscope/hagioscopelaw13.AuthorityTells" = some 3 by kernel_rfl).symm.trans hf) |>.symm
      obtain rfl : fn = Tryz.f3 := (Option.some.inj (Tryz.func3.symm.trans hfn)).symm
      exact ⟨by kernel_rfl, fun j t ht => by
        rw [Tryz.params3] at ht
        have hm : t ∈ [9, 3, 23, 24] := by simpa using Array.mem_of_getElem? ht
        have hall : ([9, 3, 23, 24].all fun u => !Tryz.prog.wantsStandIn u) = true := by kernel_rfl
        exact (show Tryz.prog.wantsStandIn t = false by simpa using List.all_eq_true.1 hall t hm)⟩)
    (by kernel_rfl)
#print axioms proved
end Go.Proofs.YtgpgkfbbpiialaaGreatDoor.authorityTells
