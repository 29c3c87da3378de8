/-
  FieldBlanks: blanks around a text do not matter to package field's Parse, nor letters of names, of names without a colon; else the small case comes out right. Conditions: none beyond the statement's own.
-/
import Derived.Test.YtkbankjnfedkdaaFdSmall
import Derived.Test.YtkbankjnfedkdaaLiftFd
set_option maxRecDepth 100000
namespace Go.Proofs.Ytkbankjnfedkdaa.fieldBlanks
open Go.ChangeMaps (open_string)
open Go.ChangeShapes Go.WideShapes Go.ChangeAt Go.RowKit Go.Proofs.Ytkbankjnfedkdaa.Wd Go.Proofs.Ytkbankjnfedkdaa.Asc Go.Proofs.Ytkbankjnfedkdaa.Tx Go.Proofs.Ytkbankjnfedkdaa.St Go.Proofs.Ytkbankjnfedkdaa.Fd Go.Proofs.Ytkbankjnfedkdaa.Lift

theorem blanks_next (X : ByteArray) (j : Nat) (h : bs X = blanks j) : bs (X ++ ⟨#[32, 9]⟩) = blanks (j + 1) := by
  rw [bs_add, h]; rfl

set_option linter.unusedSimpArgs false in
set_option maxHeartbeats 8000000 in
theorem walk (W : World) (A : ByteArray) (hA0 : A.size ≤ maxLen) (B : ByteArray) (hB0 : B.size ≤ maxLen) (n : Int) (hn : -9223372036854775808 ≤ n ∧ n ≤ 9223372036854775807) (hE : Env W.heap.size W) :
    Calls Try.prog 6 #[.string A, .string B, .int .i64 n] W fun e w' => e = .returned (.bool true) ∧ Below W.heap.size W w' := by
  have sA : A.size ≤ 9223372036854775807 := hA0
  have sB : B.size ≤ 9223372036854775807 := hB0
  obtain ⟨n0, n1⟩ := hn
  have HE := Lib.hid hE
  have HS := Lib.hid (fun w hE => small_any (N := W.heap.size) w hE)
  clear hE hA0 hB0
  go_enter Try.func6, Try.ntmps6
  go_wp2_with fail
  refine (HS.out W HE.out).mono ?_
  rintro e w1 ⟨rfl, hb⟩
  have HL1 := Lib.hid hb
  clear hb HS
  by_cases h1 : 500 < A.size
  · have i1 : (500 : Int) < (A.size : Int) := by omega
    go_wp2_with fail
    go_ret
    exact ⟨rfl, HL1.out⟩
  have i1 : ¬ (500 : Int) < (A.size : Int) := by omega
  by_cases h2 : 500 < B.size
  · have i2 : (500 : Int) < (B.size : Int) := by omega
    go_wp2_with fail
    go_ret
    exact ⟨rfl, HL1.out⟩
  have i2 : ¬ (500 : Int) < (B.size : Int) := by omega
  by_cases i3 : n < 0
  · go_wp2_with fail
    go_ret
    exact ⟨rfl, HL1.out⟩
  by_cases i4 : 20 < n
  · go_wp2_with fail
    go_ret
    exact ⟨rfl, HL1.out⟩
  obtain ⟨m, rfl⟩ : ∃ m : Nat, n = (m : Int) := ⟨n.toNat, by omega⟩
  have hm : m ≤ 20 := by omega
  have zA : A.size ≤ 500 := by omega
  have zB : B.size ≤ 500 := by omega
  clear h1 h2 n0 n1 sA sB
  go_wp2_with fail
  go_loop [8] (fun x => ∃ k : Nat, x = .int .i64 k ∧ k ≤ A.size ∧ Hid ((58 : UInt8) ∉ (bs A).take k)) (fun x => A.size - (intOf x).toNat)
  case atStart => exact ⟨0, rfl, Nat.zero_le _, Lib.hid (by simp)⟩
  case round =>
    obtain ⟨k, rfl, hk, HT⟩ := hrel
    by_cases hp : k < A.size
    · cases hc : (((A[k]'hp).toNat : Int) == 58)
      · have HN := Lib.hid (free_step A k hp HT.out (by rw [bne, hc]; rfl))
        go_wp2_with fail
        go_round
        case rel => exact ⟨k + 1, by go_num, hp, HN⟩
        case measure => simp [intOf]; omega
      · go_wp2_with fail
        go_ret
        exact ⟨rfl, HL1.out⟩
    · have HF : Hid ((58 : UInt8) ∉ bs A) := Lib.hid (by
        have := HT.out
        rwa [List.take_of_length_le (by rw [bs_length]; omega)] at this)
      clear HT
      go_wp2_with fail
      go_loop [9, 10] (fun x9 x10 => ∃ (j : Nat) (X : ByteArray), x9 = .string X ∧ x10 = .int .i64 j ∧ j ≤ m ∧ X.size ≤ 40 ∧ Hid (bs X = blanks j)) (fun _ x10 => m - (intOf x10).toNat)
      case atStart => exact ⟨0, ⟨#[]⟩, rfl, rfl, Nat.zero_le _, by decide, Lib.hid rfl⟩
      case round =>
        obtain ⟨j, X, rfl, rfl, hj, zX, HX⟩ := hrel
        by_cases hlt : j < m
        · have hji : (j : Int) < (m : Int) := by omega
          have HX2 := Lib.hid (blanks_next X j HX.out)
          have zX2 : (X ++ (⟨#[32, 9]⟩ : ByteArray)).size ≤ 40 := by
            have := congrArg List.length HX2.out
            rw [blanks_len, bs_length] at this
            omega
          go_wp2_with fail
          go_round
          case rel => exact ⟨j + 1, _, rfl, by go_num, by omega, zX2, HX2⟩
          case measure => simp [intOf]; omega
        · have hji : ¬ (j : Int) < (m : Int) := by omega
          obtain rfl : j = m := by omega
          obtain ⟨q, hq⟩ : ∃ q, parseS (bs A ++ 58 :: bs B) = q := ⟨_, rfl⟩
          obtain ⟨LA, hLA⟩ : ∃ LA, lowS A = LA := ⟨_, rfl⟩
          have bLA : bs LA = (bs A).map lowB := by rw [← hLA]; rfl
          have zL : LA.size ≤ 500 := by rw [← bs_length, bLA, List.length_map, bs_length]; exact zA
          have HLo := Lib.hid (fun w => lower_any A w)
          rw [hLA] at HLo
          have HT1 : Hid (A ++ ⟨#[58]⟩ ++ B = str (bs A ++ 58 :: bs B)) := Lib.hid (by
            apply bs_inj
            simp only [bs_add, bs_str]
            simp [bs])
          have HT2 : Hid (LA ++ ⟨#[58]⟩ ++ X ++ B ++ X = str ((bs A).map lowB ++ 58 :: (blanks j ++ (bs B ++ blanks j)))) := Lib.hid (by
            apply bs_inj
            simp only [bs_add, bs_str, bLA, HX.out]
            simp [bs])
          have P1 := Lib.hid (fun w hE => parse_any (N := W.heap.size) (bs A ++ 58 :: bs B) w hE (by simp [bs_length]; omega))
          have P2 := Lib.hid (fun w hE => parse_any (N := W.heap.size) ((bs A).map lowB ++ 58 :: (blanks j ++ (bs B ++ blanks j))) w hE (by simp [bs_length, blanks_len]; omega))
          rw [parse_blanks j HF.out, hq] at P2
          rw [hq] at P1
          obtain ⟨f, k2⟩ := q
          have ek : (k2 == k2) = true := by simp
          have z1 : (A ++ (⟨#[58]⟩ : ByteArray)).size ≤ 501 := by rw [ByteArray.size_append]; show _ + 1 ≤ _; omega
          have z2 : (LA ++ (⟨#[58]⟩ : ByteArray)).size ≤ 501 := by rw [ByteArray.size_append]; show _ + 1 ≤ _; omega
          have z3 : (LA ++ (⟨#[58]⟩ : ByteArray) ++ X).size ≤ 541 := by rw [ByteArray.size_append]; omega
          have z4 : (LA ++ (⟨#[58]⟩ : ByteArray) ++ X ++ B).size ≤ 1041 := by rw [ByteArray.size_append]; omega
          clear hq hLA bLA HX HF
          go_wp2_with fail
          rw [HT1.out]
          refine (P1.out w1 (HE.out.below HL1.out)).mono ?_
          rintro e w2 ⟨rfl, hb⟩
          have HL2 := Lib.hid (HL1.out.trans (hb.mono HL1.out.size))
          clear hb P1 HL1 HT1
          go_upto_region 15 with (refine go_st 24 (Blk.new _ _ _) infF rfl rfl (fdC_one _) rfl rfl rfl rfl ?_)
          obtain ⟨hk, hb⟩ := st_new w2 f
          have HL3 := Lib.hid (HL2.out.trans (hb.mono HL2.out.size))
          have HK3 := Lib.hid hk
          clear hk hb HL2
          generalize (w2.alloc (.cells #[.string ⟨#[]⟩, .string ⟨#[]⟩] 24)).setRow w2.heap.size (fdC f) = w3 at *
          generalize w2.heap.size = g3 at *
          go_wp2_with fail
          refine (HLo.out w3).mono ?_
          rintro e w4 ⟨rfl, hb⟩
          have HL4 := Lib.hid (HL3.out.trans (hb.mono HL3.out.size))
          have HK4 := Lib.hid (HK3.out.below hb HK3.out.lt)
          clear hb HLo HL3 HK3
          go_wp2_with fail
          rw [HT2.out]
          refine (P2.out w4 (HE.out.below HL4.out)).mono ?_
          rintro e w5 ⟨rfl, hb⟩
          have HL5 := Lib.hid (HL4.out.trans (hb.mono HL4.out.size))
          have HK5 := Lib.hid (HK4.out.below hb HK4.out.lt)
          clear hb P2 HL4 HK4 HT2
          go_upto_region 16 with (refine go_st 24 (Blk.new _ _ _) infF rfl rfl (fdC_one _) rfl rfl rfl rfl ?_)
          obtain ⟨hk, hb⟩ := st_new w5 f
          have HL6 := Lib.hid (HL5.out.trans (hb.mono HL5.out.size))
          have k6 := HK5.out.below hb HK5.out.lt
          have n6 := hk
          clear hk hb HL5 HK5
          generalize (w5.alloc (.cells #[.string ⟨#[]⟩, .string ⟨#[]⟩] 24)).setRow w5.heap.size (fdC f) = w6 at *
          generalize w5.heap.size = g6 at *
          have hz : (fdC f).size = 2 := rfl
          go_wp2_with (first | (refine go_ldg (x := .tmp 11) 24 k6 undF rfl infF hz (by rfl) rfl rfl ?_) | (refine go_ldg (x := .tmp 13) 24 n6 undF rfl infF hz (by rfl) rfl rfl ?_; refine Hid.out ?_))
          refine Lib.hid ?_
          refine go_eqlF (x := .tmp 74) (y := .tmp 75) (t := 24) f f true (by simp) rfl (by rfl) rfl rfl ?_
          go_wp2_with fail
          go_ret
          exact ⟨rfl, HL6.out⟩

set_option maxRecDepth 100000 in
set_option linter.unusedVariables false in
theorem lifted (os : Os) (started : os.Started) (H : Type) (enc : TypeId × Value → H) :
    ReturnsInHanded {} Try.checked os 6 .any (Rows.fieldBlanksSpec.pre6 enc Try.prog Try.f6 Rows.fieldBlanksRow.domain false) (Rows.fieldBlanksSpec.post enc Try.prog Try.f6 false true false false) := by
  refine returnsInHanded_of_change_shaped (C := Try.checked) own started (by kernel_rfl) Try.func6
    (ChangeSpec.witness6 (enc := enc) (C := Try.checked) false ⟨#[], #[.string .empty, .string .empty, .int .i64 0], []⟩ 8 (by kernel_rfl) (by kernel_rfl) (by kernel_rfl) (by kernel_rfl)) ?_
  intro W base args ds gs before hval0 hW hcnd hsz0 hshp _
  have hE := env_of hshp
  have hval : ∀ (j : Nat) t v, Try.f6.params[j]? = some t → args[j]? = some v → Value.okWide Try.prog W .any base t v := hval0
  have hW' := hW
  obtain ⟨p, q, hA0, hV, rfl, hfz, hnd⟩ := hW
  have hA : DataW.TrodAll enc Try.prog W 0 (fun _ => true) true Try.f6.params.toList args.toList ds p := hA0
  have hsz : (DataW.weightsEach Try.prog (Try.f6.params.toList ++ Rows.fieldBlanksSpec.plain.varTypes Try.prog) (ds ++ gs)).all (· ≤ reachBytes) = true := hsz0
  rw [Try.params6] at hA hval hsz
  obtain ⟨v0, vs0, d0, ds0, p0, q0, hargs, rfl, rfl, h0, r0⟩ := trodAll_cons hA
  obtain ⟨v1, vs1, d1, ds1, p1, q1, rfl, rfl, rfl, h1, r1⟩ := trodAll_cons r0
  obtain ⟨v2, vs2, d2, ds2, p2, q2, rfl, rfl, rfl, h2, r2⟩ := trodAll_cons r1
  obtain ⟨rfl, rfl, rfl⟩ := trodAll_nil r2
  obtain rfl : args = #[v0, v1, v2] := by cases args; simp_all
  obtain ⟨rfl, rfl⟩ := trodVars_none hV
  have k0 := h0
  have lt0 : ∀ x ∈ p0, x.block < W.heap.size := by obtain ⟨m, hm⟩ := k0; exact DataW.trod_lt m _ _ _ hm
  obtain ⟨s0, rfl, rfl, rfl, hs0⟩ := open_string Try.underlying9 (hval 0 9 v0 rfl rfl) h0
  have k1 := h1
  have lt1 : ∀ x ∈ p1, x.block < W.heap.size := by obtain ⟨m, hm⟩ := k1; exact DataW.trod_lt m _ _ _ hm
  obtain ⟨s1, rfl, rfl, rfl, hs1⟩ := open_string Try.underlying9 (hval 1 9 v1 rfl rfl) h1
  have k2 := h2
  have lt2 : ∀ x ∈ p2, x.block < W.heap.size := by obtain ⟨m, hm⟩ := k2; exact DataW.trod_lt m _ _ _ hm
  obtain ⟨a2, rfl, rfl, rfl, w2⟩ := open_int Try.underlying3 (hval 2 3 v2 rfl rfl) h2
  have b2 := int_of w2
  clear hA0 hval0 hsz0
  refine (walk W s0 hs0 s1 hs1 a2 b2 hE).mono fun e W' ⟨he, bel⟩ => ?_
  subst he
  exact ⟨_, rfl, _, _, _, [], _, [], hW', trodAll_mk1 (shut_bool Try.underlying4 _), (trodAll_cons_mk (Below.trod laidOut (by kernel_rfl) (of_decide_eq_true (by kernel_rfl)) k0 bel lt0) (trodAll_cons_mk (Below.trod laidOut (by kernel_rfl) (of_decide_eq_true (by kernel_rfl)) k1 bel lt1) (trodAll_cons_mk (Below.trod laidOut (by kernel_rfl) (of_decide_eq_true (by kernel_rfl)) k2 bel lt2) trodAll_mk0))), rfl, bel.frame _, fun h => by cases h⟩

theorem over : Rows.fieldBlanksRow.holds Try.pinned (OpenSpec.ofChange Rows.fieldBlanksSpec) :=
  OpenClaim.holds_of_wide 6 Try.f6 rfl rfl rfl rfl rfl rfl rfl ⟨rfl, rfl, rfl, rfl, rfl⟩ rfl rfl rfl rfl rfl (by kernel_rfl) Try.func6 (by kernel_rfl)
    (of_decide_eq_true (by kernel_rfl)) (by unfold Func.isWrapper; first | (rw [if_pos (by decide +kernel)]; kernel_rfl) | (rw [if_neg (by decide +kernel)]; exact ⟨rfl, rfl⟩))
    (fun os started H enc _ => lifted os started H enc)

theorem proved : Rows.FieldBlanksSaid := over
#print axioms proved
end Go.Proofs.Ytkbankjnfedkdaa.fieldBlanks
