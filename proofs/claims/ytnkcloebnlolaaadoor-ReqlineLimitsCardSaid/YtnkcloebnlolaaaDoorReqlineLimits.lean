/-
  ReqlineLimits: a line with a method of n and a target of m bytes is told just if they are not too long, by the error that the document gives; else the small case comes out right. Conditions: none beyond the statement's own.
-/
import Derived.Test.YtnkcloebnlolaaaDoorRlSmall
import Derived.Test.YtnkcloebnlolaaaDoorLiftReq
import Derived.Test.YtnkcloebnlolaaaDoorCards
import Derived.Test.YtnkcloebnlolaaaDoorTie
set_option maxRecDepth 100000
namespace Go.Proofs.YtnkcloebnlolaaaDoor.reqlineLimits
open Go.ChangeShapes Go.WideShapes Go.ChangeAt Go.RowKit Go.Proofs.YtnkcloebnlolaaaDoor.Wd Go.Proofs.YtnkcloebnlolaaaDoor.Asc Go.Proofs.YtnkcloebnlolaaaDoor.Tx Go.Proofs.YtnkcloebnlolaaaDoor.St Go.Proofs.YtnkcloebnlolaaaDoor.Rl Go.Proofs.YtnkcloebnlolaaaDoor.Lift

def rowA (k : Nat) : List UInt8 := List.replicate k 65
def rowX (k : Nat) : List UInt8 := 47 :: List.replicate (k - 1) 120
theorem rowA_len (k : Nat) : (rowA k).length = k := by simp [rowA]
theorem rowX_len {k : Nat} (h : 1 ≤ k) : (rowX k).length = k := by simp [rowX]; omega
theorem rowA_next (k : Nat) : rowA (k + 1) = rowA k ++ [65] := List.replicate_succ'
theorem rowX_next {k : Nat} (h : 1 ≤ k) : rowX (k + 1) = rowX k ++ [120] := by
  rw [rowX, rowX, List.cons_append, show k + 1 - 1 = (k - 1) + 1 by omega, List.replicate_succ']
theorem tokA {k : Nat} (h : 1 ≤ k) : allS tokI (rowA k) = true := by
  obtain ⟨j, rfl⟩ : ∃ j, k = j + 1 := ⟨k - 1, by omega⟩
  rw [allS, Bool.and_eq_true]
  refine ⟨rfl, List.all_eq_true.2 fun c hc => ?_⟩
  rw [List.eq_of_mem_replicate hc]; decide
theorem visX (k : Nat) : allS visI (rowX k) = true := by
  rw [allS, Bool.and_eq_true]
  refine ⟨rfl, List.all_eq_true.2 fun c hc => ?_⟩
  rcases List.mem_cons.1 hc with rfl | hc
  · decide
  · rw [List.eq_of_mem_replicate hc]; decide
theorem lim_parse {n m : Nat} (hn : 1 ≤ n) : parseS (lineT (rowA n) (rowX m) (v1 ++ [48])) = partsS (rowA n) (rowX m) (v1 ++ [48]) :=
  parse_three (tok_free (tokA hn)) (vis_free (visX m)) (by decide)
theorem lim_meth {n m : Nat} (hn : 1 ≤ n) (h : 32 < n) : parseS (lineT (rowA n) (rowX m) (v1 ++ [48])) = (Rq.zero, 11) := by
  rw [lim_parse hn, partsS, if_pos (.inr (by rw [rowA_len]; exact h))]
theorem lim_targ {n m : Nat} (hn : 1 ≤ n) (hm : 1 ≤ m) (h : ¬ 32 < n) (h2 : 8000 < m) : parseS (lineT (rowA n) (rowX m) (v1 ++ [48])) = (Rq.zero, 6) := by
  rw [lim_parse hn, partsS, if_neg (by rw [tokA hn, rowA_len]; simp; omega), if_neg (by rw [visX]; simp), if_pos (by rw [rowX_len hm]; exact h2)]
theorem lim_ok {n m : Nat} (hn : 1 ≤ n) (hm : 1 ≤ m) (h : ¬ 32 < n) (h2 : ¬ 8000 < m) : parseS (lineT (rowA n) (rowX m) (v1 ++ [48])) = (⟨rowA n, rowX m, 0⟩, 0) := by
  rw [lim_parse hn]
  exact parts_ok (tokA hn) (by rw [rowA_len]; omega) (visX m) (by rw [rowX_len hm]; omega) rfl

theorem info81 : (Tryd.prog.info? 5).map (fun i => (i.zero, i.size, i.bytes)) = some (some (.int .u8 0), 1, 1) := by kernel_rfl
theorem one_src (w : World) (c : UInt8) : Src (w.alloc (.cells #[.int .u8 (c.toNat : Int)] 5)) (some ⟨w.heap.size, 0, none⟩) 1 [c] := Src.marked w _ _ _ [c] rfl
theorem own_one {w : World} {B : Nat} (hB : B ≤ w.heap.size) : Own (w.alloc (.cells #[.int .u8 47] 5)) B (.slice (some ⟨w.heap.size, 0, none⟩) 1 1) (rowX 1) :=
  ⟨rfl, .inr ⟨w.heap.size, 1, #[.int .u8 47], rfl, hB, heap_alloc_new w _, Nat.le_refl _, by unfold maxLen; omega, rfl, rfl⟩⟩
/-- how far the target has come -/
def TgAt (W w' : World) (B : Nat) (M : Nat) (v i : Value) : Prop := ∃ k : Nat, 1 ≤ k ∧ k ≤ M ∧ i = .int .i64 k ∧ Own w' B v (rowX k) ∧ Below B W w' ∧ B ≤ w'.heap.size

set_option linter.unusedSimpArgs false in
set_option maxHeartbeats 8000000 in
theorem walk (W : World) (n : Int) (bn : -9223372036854775808 ≤ n ∧ n ≤ 9223372036854775807) (m : Int) (bm : -9223372036854775808 ≤ m ∧ m ≤ 9223372036854775807) (hE : Env W.heap.size W) :
    Calls Tryd.prog 5 #[.int .i64 n, .int .i64 m] W fun e w' => e = .returned (.bool true) ∧ Below W.heap.size W w' := by
  have HS := Lib.hid (fun w hE => small_any (N := W.heap.size) w hE)
  have HE := Lib.hid hE
  obtain ⟨n0, n1⟩ := bn
  obtain ⟨m0, m1⟩ := bm
  clear hE
  go_enter Tryd.func5, Tryd.ntmps5
  go_wp2_with fail
  refine (HS.out W HE.out).mono ?_
  rintro e w1 ⟨rfl, hb⟩
  have HL := Lib.hid hb
  have hsz1 := hb.size
  clear hb HS
  by_cases h1 : n < 1
  · go_wp2_with fail
    go_ret
    exact ⟨rfl, HL.out⟩
  by_cases h2 : 100 < n
  · go_wp2_with fail
    go_ret
    exact ⟨rfl, HL.out⟩
  by_cases h3 : m < 1
  · go_wp2_with fail
    go_ret
    exact ⟨rfl, HL.out⟩
  by_cases h4 : 8100 < m
  · go_wp2_with fail
    go_ret
    exact ⟨rfl, HL.out⟩
  obtain ⟨N, rfl⟩ : ∃ N : Nat, n = N := ⟨n.toNat, by omega⟩
  obtain ⟨M, rfl⟩ : ∃ M : Nat, m = M := ⟨m.toNat, by omega⟩
  have hN1 : 1 ≤ N := by omega
  have hN2 : N ≤ 100 := by omega
  have hM1 : 1 ≤ M := by omega
  have hM2 : M ≤ 8100 := by omega
  go_wp2_with fail
  clear n0 n1 m0 m1
  go_loop [6, 7] (fun x i => ∃ k : Nat, i = .int .i64 k ∧ k ≤ N ∧ x = .string (str (rowA k))) (fun _ i => N - (intOf i).toNat)
  case atStart => exact ⟨0, rfl, Nat.zero_le _, rfl⟩
  case round =>
    obtain ⟨k, rfl, hk, rfl⟩ := hrel
    have hX : str (rowA k) ++ ⟨#[65]⟩ = str (rowA (k + 1)) := by rw [rowA_next]; exact str_cat _ [65]
    have zX : (str (rowA k)).size ≤ 100 := by rw [str_size, rowA_len]; omega
    by_cases hp : k < N
    · have hkn : (k : Int) < (N : Int) := by omega
      have HX := Lib.hid hX
      generalize str (rowA k) = X at *
      clear hX
      go_wp2_with fail
      go_round
      case rel => exact ⟨k + 1, by go_num, by omega, by rw [HX.out]⟩
      case measure => simp [intOf]; omega
    · obtain rfl : k = N := by omega
      clear hX hp hk
      obtain ⟨X, hX⟩ : ∃ X, str (rowA k) = X := ⟨_, rfl⟩
      rw [hX] at zX ⊢
      have HX := Lib.hid hX
      clear hX
      go_wp2_with fail
      go_loopw [8, 9] (fun v i w' => TgAt W w' W.heap.size M v i) (fun _ i _ => M - (intOf i).toNat)
      case atStart => exact ⟨1, Nat.le_refl _, hM1, rfl, own_one hsz1, HL.out.alloc hsz1 _, by simp; omega⟩
      case round =>
        obtain ⟨j, hj1, hjM, rfl, hown, hbel, hsz⟩ := hrel
        have HO := Lib.hid hown
        have HB := Lib.hid hbel
        clear hown hbel
        by_cases hp : j < M
        · have hjm : (j : Int) < (M : Int) := by omega
          have hlen := rowX_len hj1
          go_wp2_with (at_builtin; refine wpList_app rfl _ _ 34 rfl Tryd.underlying34 info81 W.heap.size _ _ rfl (HO.out.alloc _) _ 1 1 [120] rfl (one_src wr 120) (by omega) (by simp; omega) ?_; intro v1 w3 hown1 hb1)
          have HB3 := Lib.hid ((HB.out.alloc hsz (.cells #[.int .u8 120] 5)).trans hb1)
          have hsz3 := HB3.out.size
          clear hb1
          go_roundw
          case rel => exact ⟨j + 1, by omega, by omega, by go_num, by rw [rowX_next hj1]; exact hown1.out, HB3.out, hsz3⟩
          case measure => simp [intOf]; omega
        · obtain rfl : j = M := by omega
          clear hp hjM
          obtain ⟨Ad, cp, rfl, hcp, hsrc⟩ := HO.out.src
          have hcv := conv (c := cp) hsrc
          have hlen := rowX_len hj1
          rw [hlen] at hcv hsrc hcp ⊢
          obtain ⟨Y, hY⟩ : ∃ Y, str (rowX j) = Y := ⟨_, rfl⟩
          have hcv' : (convert 34 9 (.slice Ad j cp)).run Tryd.prog wr = .ok (.string Y) wr := by rw [← hY]; exact hcv
          have zY : Y.size ≤ 8100 := by rw [← hY, str_size, hlen]; exact hM2
          have HSr := Lib.hid hsrc
          have HY := Lib.hid hY
          clear hcv hsrc hY hlen HO
          have z1 : (X ++ (⟨#[32]⟩ : ByteArray)).size ≤ 101 := by rw [ByteArray.size_append]; show X.size + 1 ≤ _; omega
          have z2 : (X ++ (⟨#[32]⟩ : ByteArray) ++ Y).size ≤ 8201 := by rw [ByteArray.size_append]; omega
          have HT : Hid (X ++ (⟨#[32]⟩ : ByteArray) ++ Y ++ (⟨#[32, 72, 84, 84, 80, 47, 49, 46, 48]⟩ : ByteArray) = str (lineT (rowA k) (rowX j) (v1 ++ [48]))) := Lib.hid (by
            rw [← HX.out, ← HY.out]
            apply bs_inj
            simp only [bs_add, bs_str]
            simp [lineT, v1, bs])
          have HTl : Hid ((lineT (rowA k) (rowX j) (v1 ++ [48])).length < 4294967281) := Lib.hid (by
            rw [← str_size, ← HT.out, ByteArray.size_append]; show _ + 9 < _; omega)
          have HEr := Lib.hid (HE.out.below HB.out)
          by_cases hn : 32 < k
          · have hni : (32 : Int) < (k : Int) := by omega
            have PP := Lib.hid (par_is _ _ HT.out _ (lim_meth hN1 hn) HTl.out wr HEr.out)
            clear HT HTl
            go_wp2_with fail
            refine PP.out.mono ?_
            rintro e w4 ⟨rfl, hb⟩
            have HB4 := Lib.hid (HB.out.trans (hb.mono hsz))
            have hsz4 : W.heap.size ≤ w4.heap.size := HB4.out.size
            have HBw := Lib.hid hb
            clear hb PP HB HEr HE
            go_upto_region 15 with (refine go_st 23 (Blk.new _ _ _) infR rfl rfl (rqC_one _) rfl rfl rfl rfl ?_)
            obtain ⟨hk, hb⟩ := st_new w4 Rq.zero
            have HB5 := Lib.hid (HB4.out.trans (hb.mono hsz4))
            have HK5 := Lib.hid hk
            have HS5 := Lib.hid ((HSr.out.below HBw.out).below hb)
            clear hk hb HB4 HSr HBw
            generalize (w4.alloc (.cells #[.string ⟨#[]⟩, .string ⟨#[]⟩, .int .i64 0] 23)).setRow w4.heap.size (rqC Rq.zero) = w5 at *
            generalize w4.heap.size = g5 at *
            have k5 := HK5.out
            have hz5 : (rqC Rq.zero).size = 3 := rfl
            have HB0 := Lib.hid (show Tryd.prog.built 23 [] = some (rqC Rq.zero) by kernel_rfl)
            go_wp2_with (refine go_ldg (x := .tmp 10) 23 k5 undR rfl infR hz5 (by rfl) rfl rfl ?_; refine Hid.out ?_)
            refine Lib.hid ?_
            refine go_bdR (fs := #[]) _ Rq.zero HB0.out (by rfl) rfl (by simp only [List.map_toArray, List.map_nil]) ?_
            refine go_eqlR (x := .tmp 62) (y := .tmp 63) (t := 23) Rq.zero Rq.zero true (by decide) rfl (by rfl) rfl rfl ?_
            go_wp2_with fail
            go_ret
            exact ⟨rfl, HB5.out⟩
          · have hni : ¬ (32 : Int) < (k : Int) := by omega
            by_cases hm : 8000 < j
            · have hmi : (8000 : Int) < (j : Int) := by omega
              have PP := Lib.hid (par_is _ _ HT.out _ (lim_targ hN1 hM1 hn hm) HTl.out wr HEr.out)
              clear HT HTl
              go_wp2_with fail
              refine PP.out.mono ?_
              rintro e w4 ⟨rfl, hb⟩
              have HB4 := Lib.hid (HB.out.trans (hb.mono hsz))
              have hsz4 : W.heap.size ≤ w4.heap.size := HB4.out.size
              have HBw := Lib.hid hb
              clear hb PP HB HEr HE
              go_upto_region 15 with (refine go_st 23 (Blk.new _ _ _) infR rfl rfl (rqC_one _) rfl rfl rfl rfl ?_)
              obtain ⟨hk, hb⟩ := st_new w4 Rq.zero
              have HB5 := Lib.hid (HB4.out.trans (hb.mono hsz4))
              have HK5 := Lib.hid hk
              have HS5 := Lib.hid ((HSr.out.below HBw.out).below hb)
              clear hk hb HB4 HSr HBw
              generalize (w4.alloc (.cells #[.string ⟨#[]⟩, .string ⟨#[]⟩, .int .i64 0] 23)).setRow w4.heap.size (rqC Rq.zero) = w5 at *
              generalize w4.heap.size = g5 at *
              have k5 := HK5.out
              have hz5 : (rqC Rq.zero).size = 3 := rfl
              have HB0 := Lib.hid (show Tryd.prog.built 23 [] = some (rqC Rq.zero) by kernel_rfl)
              go_wp2_with (refine go_ldg (x := .tmp 10) 23 k5 undR rfl infR hz5 (by rfl) rfl rfl ?_; refine Hid.out ?_)
              refine Lib.hid ?_
              refine go_bdR (fs := #[]) _ Rq.zero HB0.out (by rfl) rfl (by simp only [List.map_toArray, List.map_nil]) ?_
              refine go_eqlR (x := .tmp 74) (y := .tmp 75) (t := 23) Rq.zero Rq.zero true (by decide) rfl (by rfl) rfl rfl ?_
              go_wp2_with fail
              go_ret
              exact ⟨rfl, HB5.out⟩
            · have hmi : ¬ (8000 : Int) < (j : Int) := by omega
              have PP := Lib.hid (par_is _ _ HT.out _ (lim_ok hN1 hM1 hn hm) HTl.out wr HEr.out)
              clear HT HTl
              go_wp2_with fail
              refine PP.out.mono ?_
              rintro e w4 ⟨rfl, hb⟩
              have HB4 := Lib.hid (HB.out.trans (hb.mono hsz))
              have hsz4 : W.heap.size ≤ w4.heap.size := HB4.out.size
              have HBw := Lib.hid hb
              clear hb PP HB HEr HE
              go_upto_region 15 with (refine go_st 23 (Blk.new _ _ _) infR rfl rfl (rqC_one _) rfl rfl rfl rfl ?_)
              obtain ⟨hk, hb⟩ := st_new w4 ⟨rowA k, rowX j, 0⟩
              have HB5 := Lib.hid (HB4.out.trans (hb.mono hsz4))
              have HK5 := Lib.hid hk
              have HS5 := Lib.hid ((HSr.out.below HBw.out).below hb)
              clear hk hb HB4 HSr HBw
              generalize (w4.alloc (.cells #[.string ⟨#[]⟩, .string ⟨#[]⟩, .int .i64 0] 23)).setRow w4.heap.size (rqC ⟨rowA k, rowX j, 0⟩) = w5 at *
              generalize w4.heap.size = g5 at *
              have q0 : w5.cell? ⟨g5, 0, none⟩ = some (.string X) := by rw [HK5.out.cell, ← HX.out]; rfl
              have q1 : w5.cell? ⟨g5, 1, none⟩ = some (.string Y) := by rw [HK5.out.cell, ← HY.out]; rfl
              have q2 : w5.cell? ⟨g5, 2, none⟩ = some (.int .i64 0) := by rw [HK5.out.cell]; rfl
              have hcv5 : (convert 34 9 (.slice Ad j cp)).run Tryd.prog w5 = .ok (.string Y) w5 := by rw [← HY.out]; exact conv (c := cp) HS5.out
              have eX : (X.toList == X.toList) = true := by simp
              have eY : (Y.toList == Y.toList) = true := by simp
              go_wp2_with fail
              go_ret
              exact ⟨rfl, HB5.out⟩

set_option maxRecDepth 100000 in
set_option linter.unusedVariables false in
theorem lifted (os : Os) (started : os.Started) (H : Type) (enc : TypeId × Value → H) :
    ReturnsInHanded {} Tryd.checked os 5 .any (fun w args => (Rows.reqlineLimitsSpec.pre enc Tryd.prog Tryd.f5 [] false w args ∧ laidMetH Tryd.prog laid3 w) ∧ sizedMet enc Tryd.prog Tryd.f5 (OpenSpec.ofChange Rows.reqlineLimitsSpec) false w args)
      (Rows.reqlineLimitsSpec.post enc Tryd.prog Tryd.f5 false true false false) := by
  refine returns_laid (C := Tryd.checked) (X := fun w _ => laidMetH Tryd.prog laid3 w) (fun _ _ _ hh h => h.of_heap hh) own started (by kernel_rfl) Tryd.func5
    (ChangeSpec.witness_shaped (enc := enc) (C := Tryd.checked) (os := os) (X := fun w _ => laidMetH Tryd.prog laid3 w) false (World.doorLaid Tryd.prog 24 os) #[.int .i64 0, .int .i64 0] 8 rfl (World.shaped_of_RefB (by kernel_rfl) (by kernel_rfl)) (by kernel_rfl) (by kernel_rfl) (by kernel_rfl) (door_met os _)) ?_
  intro W base args ds gs before hval0 hW hL hshp
  have hE := env_of hL hshp
  have hval : ∀ (j : Nat) t v, Tryd.f5.params[j]? = some t → args[j]? = some v → Value.okWide Tryd.prog W .any base t v := hval0
  have hW' := hW
  obtain ⟨p, q, hA0, hV, rfl, hfz, hnd⟩ := hW
  have hA : DataW.TrodAll enc Tryd.prog W 0 (fun _ => true) true Tryd.f5.params.toList args.toList ds p := hA0
  rw [Tryd.params5] at hA hval
  obtain ⟨v0, vs0, d0, ds0, p0, q0, hargs, rfl, rfl, h0, r0⟩ := trodAll_cons hA
  obtain ⟨v1, vs1, d1, ds1, p1, q1, rfl, rfl, rfl, h1, r1⟩ := trodAll_cons r0
  obtain ⟨rfl, rfl, rfl⟩ := trodAll_nil r1
  obtain rfl : args = #[v0, v1] := by cases args; simp_all
  obtain ⟨rfl, rfl⟩ := trodVars_none hV
  have k0 := h0
  have lt0 : ∀ x ∈ p0, x.block < W.heap.size := by obtain ⟨m, hm⟩ := k0; exact DataW.trod_lt m _ _ _ hm
  obtain ⟨a0, rfl, rfl, rfl, w0⟩ := open_int Tryd.underlying3 (hval 0 3 v0 rfl rfl) h0
  have b0 := int_of w0
  have k1 := h1
  have lt1 : ∀ x ∈ p1, x.block < W.heap.size := by obtain ⟨m, hm⟩ := k1; exact DataW.trod_lt m _ _ _ hm
  obtain ⟨a1, rfl, rfl, rfl, w1⟩ := open_int Tryd.underlying3 (hval 1 3 v1 rfl rfl) h1
  have b1 := int_of w1
  clear hA0 hval0
  refine (walk W a0 b0 a1 b1 hE).mono fun e W' ⟨he, bel⟩ => ?_
  subst he
  exact ⟨_, rfl, _, _, _, [], _, [], hW', trodAll_mk1 (shut_bool Tryd.underlying4 _), (trodAll_cons_mk (Below.trod Lift.laidOut (by kernel_rfl) (of_decide_eq_true (by kernel_rfl)) k0 bel lt0) (trodAll_cons_mk (Below.trod Lift.laidOut (by kernel_rfl) (of_decide_eq_true (by kernel_rfl)) k1 bel lt1) trodAll_mk0)), rfl, bel.frame _, fun h => by cases h⟩

theorem over : Rows.reqlineLimitsRow.holds Tryd.pinned (OpenSpec.ofChange Rows.reqlineLimitsSpec) :=
  OpenClaim.holds_of_wide 5 Tryd.f5 rfl rfl rfl rfl rfl rfl rfl ⟨rfl, rfl, rfl, rfl, rfl⟩ rfl rfl rfl rfl rfl (by kernel_rfl) Tryd.func5 (by kernel_rfl)
    (of_decide_eq_true (by kernel_rfl)) (by unfold Func.isWrapper; first | (rw [if_pos (by decide +kernel)]; kernel_rfl) | (rw [if_neg (by decide +kernel)]; exact ⟨rfl, rfl⟩))
    (fun os started H enc _ => lifted os started H enc)

theorem proved : Rows.ReqlineLimitsCardSaid :=
  Claim7.holds_tied_plain_at .later [] [.data, .data, .data] true (true, "6cf545e2bb98b62287d2de85b61d76cc33adb4d7a6870d89833e676b30f47edb") false
    over (fun _ h => by cases h) (by kernel_rfl) (fun _ h => by cases h) reqlineLimits_row_tie rfl ⟨rfl, rfl⟩ (by kernel_rfl) rfl
    (fun f fn hf hfn => by
      obtain rfl : f = 5 := Option.some.inj ((show Tryd.prog.funcNamed "hagioscope/hagioscopelaw11.ReqlineLimits" = some 5 by kernel_rfl).symm.trans hf) |>.symm
      obtain rfl : fn = Tryd.f5 := (Option.some.inj (Tryd.func5.symm.trans hfn)).symm
      exact ⟨by kernel_rfl, fun j t ht => by
        rw [Tryd.params5] at ht
        have hm : t ∈ [3, 3] := by simpa using Array.mem_of_getElem? ht
        have hall : ([3, 3].all fun u => !Tryd.prog.wantsStandIn u) = true := by kernel_rfl
        exact (show Tryd.prog.wantsStandIn t = false by simpa using List.all_eq_true.1 hall t hm)⟩)
    (by kernel_rfl)
#print axioms proved
end Go.Proofs.YtnkcloebnlolaaaDoor.reqlineLimits
