/-
  NameLong: labels and names may be as long as they may, and no longer; else the small case comes out right. Conditions: none beyond the statement's own.
-/
import Derived.Test.YtdofipjjodijcaaDoorNmSmall
import Derived.Test.YtdofipjjodijcaaDoorLiftLaid5
import Derived.Test.YtdofipjjodijcaaDoorCards
import Derived.Test.YtdofipjjodijcaaDoorTie
set_option maxRecDepth 100000
namespace Go.Proofs.YtdofipjjodijcaaDoor.nameLong
open Go.ChangeMaps (open_string shut_string)
open Go.ChangeShapes Go.WideShapes Go.ChangeAt Go.RowKit Go.Proofs.YtdofipjjodijcaaDoor.Wd Go.Proofs.YtdofipjjodijcaaDoor.Asc Go.Proofs.YtdofipjjodijcaaDoor.Ad Go.Proofs.YtdofipjjodijcaaDoor.Nm Go.Proofs.YtdofipjjodijcaaDoor.Lift

set_option linter.unusedSimpArgs false in
set_option maxHeartbeats 16000000 in
theorem walk (W : World) (n : Int) (hn : -9223372036854775808 ≤ n ∧ n ≤ 9223372036854775807) (m : Int) (hm : -9223372036854775808 ≤ m ∧ m ≤ 9223372036854775807) (hE : Ad.Env W.heap.size W) :
    Calls Tryd.prog 6 #[.int .i64 n, .int .i64 m] W fun e w' => e = .returned (.bool true) ∧ Below W.heap.size W w' := by
  have HE := Lib.hid hE
  have HS := Lib.hid (small_any W hE)
  have n0 := hn.1
  have n9 := hn.2
  have m0 := hm.1
  have m9 := hm.2
  clear hE hn hm
  go_enter Tryd.func6, Tryd.ntmps6
  go_wp2_with fail
  refine HS.out.mono ?_
  rintro e w1 ⟨rfl, hb⟩
  have HL1 := Lib.hid hb
  clear hb HS
  by_cases a1 : n < 1
  · have i : decide (n < 1) = true := decide_eq_true a1
    clear a1
    go_wp2_with fail
    go_ret
    exact ⟨rfl, HL1.out⟩
  have ia1 : decide (n < 1) = false := decide_eq_false a1
  by_cases a2 : (60 : Int) < n
  · have i : decide ((60 : Int) < n) = true := decide_eq_true a2
    clear a2
    go_wp2_with fail
    go_ret
    exact ⟨rfl, HL1.out⟩
  have ia2 : decide ((60 : Int) < n) = false := decide_eq_false a2
  by_cases a3 : m < 1
  · have i : decide (m < 1) = true := decide_eq_true a3
    clear a3
    go_wp2_with fail
    go_ret
    exact ⟨rfl, HL1.out⟩
  have ia3 : decide (m < 1) = false := decide_eq_false a3
  by_cases a4 : (70 : Int) < m
  · have i : decide ((70 : Int) < m) = true := decide_eq_true a4
    clear a4
    go_wp2_with fail
    go_ret
    exact ⟨rfl, HL1.out⟩
  have ia4 : decide ((70 : Int) < m) = false := decide_eq_false a4
  obtain ⟨N, rfl⟩ : ∃ N : Nat, n = (N : Int) := ⟨n.toNat, by omega⟩
  obtain ⟨M, rfl⟩ : ∃ M : Nat, m = (M : Int) := ⟨m.toNat, by omega⟩
  have hN1 : 1 ≤ N := by omega
  have hN9 : N ≤ 60 := by omega
  have hM1 : 1 ≤ M := by omega
  have hM9 : M ≤ 70 := by omega
  clear a1 a2 a3 a4 n0 n9 m0 m9
  go_wp2_with fail
  clear ia1 ia2 ia3 ia4
  go_loop [6, 7] (fun l i => ∃ (k : Nat) (T : ByteArray), k ≤ M ∧ i = .int .i64 (k : Int) ∧ l = .string T ∧ T.size ≤ 70 ∧ Hid (bs T = List.replicate k 97)) (fun _ i => M - (intOf i).toNat)
  case atStart => exact ⟨0, ⟨#[]⟩, Nat.zero_le _, rfl, rfl, by decide, Lib.hid rfl⟩
  case round =>
    obtain ⟨k, T, hk, rfl, rfl, hTz, HT⟩ := hrel
    by_cases hlt : k < M
    · have hki : (k : Int) < (M : Int) := by omega
      have hb2 : bs (T ++ ⟨#[97]⟩) = List.replicate (k + 1) 97 := by rw [bs_add, HT.out, List.replicate_succ']; rfl
      have hz2 : (T ++ ⟨#[97]⟩).size ≤ 70 := by rw [← bs_length, hb2, List.length_replicate]; omega
      have HB2 := Lib.hid hb2
      have HZ2 := Lib.hid hz2
      clear hb2 hz2
      go_wp2_with fail
      go_round
      case rel => exact ⟨k + 1, T ++ ⟨#[97]⟩, hlt, by go_num, rfl, HZ2.out, HB2⟩
      case measure => simp [intOf]; omega
    · obtain rfl : k = M := by omega
      have hLz := hTz
      have HL := HT
      obtain ⟨L, hLe⟩ : ∃ L, T = L := ⟨_, rfl⟩
      subst hLe
      clear HT hTz hlt
      go_wp2_with fail
      go_loop [8, 9] (fun s i => ∃ (j : Nat) (T' : ByteArray), 1 ≤ j ∧ j ≤ N ∧ i = .int .i64 (j : Int) ∧ s = .string T' ∧ T'.size ≤ 4260 ∧ Hid (bs T' = repS j k)) (fun _ i => N - (intOf i).toNat)
      case atStart => exact ⟨1, T, Nat.le_refl _, hN1, rfl, rfl, by omega, Lib.hid (by rw [HL.out, rep_one])⟩
      case round =>
        obtain ⟨j, D, hj1, hj, rfl, rfl, hDz, HD⟩ := hrel
        by_cases hlt : j < N
        · have hji : (j : Int) < (N : Int) := by omega
          have hb2 : bs (D ++ ⟨#[46]⟩ ++ T) = repS (j + 1) k := by rw [bs_add, bs_add, HD.out, HL.out, rep_more j k hj1, List.append_assoc]; rfl
          have hz2 : (D ++ ⟨#[46]⟩ ++ T).size ≤ 4260 := by
            rw [← bs_length, hb2]
            have h1 := rep_len k (j + 1) (by omega)
            have h2 : (j + 1) * (k + 1) ≤ 60 * 71 := Nat.mul_le_mul (by omega) (by omega)
            omega
          have HB2 := Lib.hid hb2
          have HZ2 := Lib.hid hz2
          clear hb2 hz2
          go_wp2_with fail
          go_round
          case rel => exact ⟨j + 1, D ++ ⟨#[46]⟩ ++ T, by omega, hlt, by go_num, rfl, HZ2.out, HB2⟩
          case measure => simp [intOf]; omega
        · obtain rfl : j = N := by omega
          have hrep := normal_rep (n := j) (m := k) hj1 hM1
          rw [← HD.out, bs_length] at hrep
          have hDs : str (bs D) = D := str_bs D
          clear HD HL hlt
          by_cases h5 : 253 < D.size
          · rw [if_pos h5] at hrep
            have HN3 := Lib.hid (fun w hE => norm_at (B := W.heap.size) D (by omega) [] 6 ⟨#[]⟩ hrep rfl w hE)
            have i5 : decide ((253 : Int) < (D.size : Int)) = true := decide_eq_true (by omega)
            clear hrep hDs h5
            go_wp2_with fail
            refine (HN3.out w1 (HE.out.below HL1.out)).mono ?_
            rintro e' w8 ⟨rfl, hb⟩
            have HL8 := Lib.hid (HL1.out.trans (hb.mono HL1.out.size))
            clear hb HN3 HL1
            go_wp2_with fail
            go_ret
            exact ⟨rfl, HL8.out⟩
          rw [if_neg h5] at hrep
          have i5 : decide ((253 : Int) < (D.size : Int)) = false := decide_eq_false (by omega)
          by_cases h6 : 63 < k
          · rw [if_pos h6] at hrep
            have HN3 := Lib.hid (fun w hE => norm_at (B := W.heap.size) D (by omega) [] 9 ⟨#[]⟩ hrep rfl w hE)
            have i6 : decide ((63 : Int) < (k : Int)) = true := decide_eq_true (by omega)
            clear hrep hDs h5 h6
            go_wp2_with fail
            refine (HN3.out w1 (HE.out.below HL1.out)).mono ?_
            rintro e' w8 ⟨rfl, hb⟩
            have HL8 := Lib.hid (HL1.out.trans (hb.mono HL1.out.size))
            clear hb HN3 HL1
            go_wp2_with fail
            go_ret
            exact ⟨rfl, HL8.out⟩
          · rw [if_neg h6] at hrep
            have HN3 := Lib.hid (fun w hE => norm_at (B := W.heap.size) D (by omega) (bs D) 0 D hrep hDs w hE)
            have i6 : decide ((63 : Int) < (k : Int)) = false := decide_eq_false (by omega)
            have fD : (D.toList == D.toList) = true := beq_self_eq_true _
            clear hrep hDs h5 h6
            go_wp2_with fail
            refine (HN3.out w1 (HE.out.below HL1.out)).mono ?_
            rintro e' w8 ⟨rfl, hb⟩
            have HL8 := Lib.hid (HL1.out.trans (hb.mono HL1.out.size))
            clear hb HN3 HL1
            go_wp2_with fail
            go_ret
            exact ⟨rfl, HL8.out⟩

set_option maxRecDepth 100000 in
set_option linter.unusedVariables false in
theorem lifted (os : Os) (started : os.Started) (H : Type) (enc : TypeId × Value → H) :
    ReturnsInHanded {} Tryd.checked os 6 .any (fun w args => (Rows.nameLongSpec.pre enc Tryd.prog Tryd.f6 [] false w args ∧ laidMetH Tryd.prog laid5 w) ∧ sizedMet enc Tryd.prog Tryd.f6 (OpenSpec.ofChange Rows.nameLongSpec) false w args)
      (Rows.nameLongSpec.post enc Tryd.prog Tryd.f6 false true false false) := by
  refine returns_laid (C := Tryd.checked) (X := fun w _ => laidMetH Tryd.prog laid5 w) (fun _ _ _ hh h => h.of_heap hh) own started (by kernel_rfl) Tryd.func6
    (ChangeSpec.witness_shaped (enc := enc) (C := Tryd.checked) (os := os) (X := fun w _ => laidMetH Tryd.prog laid5 w) false (World.laidAll Tryd.prog os laid5) #[.int .i64 0, .int .i64 0] 8 (World.laidAll_os _ _ _)
      (World.shaped_of_ZipB (by kernel_rfl) (by kernel_rfl)) (by kernel_rfl) (by kernel_rfl) (by kernel_rfl) (door_met5 os _)) ?_
  intro W base args ds gs before hval0 hW hL hshp
  have hE := env_of5 hL hshp
  have hval : ∀ (j : Nat) t v, Tryd.f6.params[j]? = some t → args[j]? = some v → Value.okWide Tryd.prog W .any base t v := hval0
  have hW' := hW
  obtain ⟨p, q, hA0, hV, rfl, hfz, hnd⟩ := hW
  have hA : DataW.TrodAll enc Tryd.prog W 0 (fun _ => true) true Tryd.f6.params.toList args.toList ds p := hA0
  rw [Tryd.params6] at hA hval
  obtain ⟨v0, vs0, d0, ds0, p0, q0, hargs, rfl, rfl, h0, r0⟩ := trodAll_cons hA
  obtain ⟨v1, vs1, d1, ds1, p1, q1, rfl, rfl, rfl, h1, r1⟩ := trodAll_cons r0
  obtain ⟨rfl, rfl, rfl⟩ := trodAll_nil r1
  obtain rfl : args = #[v0, v1] := by cases args; simp_all
  obtain ⟨rfl, rfl⟩ := trodVars_none hV
  have k0 := h0
  have lt0 : ∀ x ∈ p0, x.block < W.heap.size := by obtain ⟨m, hm⟩ := k0; exact DataW.trod_lt m _ _ _ hm
  obtain ⟨a0, rfl, rfl, rfl, w0⟩ := open_int Tryd.underlying3 (hval 0 3 v0 rfl rfl) h0
  have b0 := int_of w0
  have k1 := h1
  have lt1 : ∀ x ∈ p1, x.block < W.heap.size := by obtain ⟨m, hm⟩ := k1; exact DataW.trod_lt m _ _ _ hm
  obtain ⟨a1, rfl, rfl, rfl, w1⟩ := open_int Tryd.underlying3 (hval 1 3 v1 rfl rfl) h1
  have b1 := int_of w1
  clear hA0 hval0
  refine (walk W a0 b0 a1 b1 hE).mono fun e W' ⟨he, bel⟩ => ?_
  subst he
  exact ⟨_, rfl, _, _, _, [], _, [], hW', trodAll_mk1 (shut_bool Tryd.underlying4 _), (trodAll_cons_mk (Below.trod Lift.laidOut (by kernel_rfl) (of_decide_eq_true (by kernel_rfl)) k0 bel lt0) (trodAll_cons_mk (Below.trod Lift.laidOut (by kernel_rfl) (of_decide_eq_true (by kernel_rfl)) k1 bel lt1) trodAll_mk0)), rfl, bel.frame _, fun h => by cases h⟩

theorem over : Rows.nameLongRow.holds Tryd.pinned (OpenSpec.ofChange Rows.nameLongSpec) :=
  OpenClaim.holds_of_wide 6 Tryd.f6 rfl rfl rfl rfl rfl rfl rfl ⟨rfl, rfl, rfl, rfl, rfl⟩ rfl rfl rfl rfl rfl (by kernel_rfl) Tryd.func6 (by kernel_rfl)
    (of_decide_eq_true (by kernel_rfl)) (by unfold Func.isWrapper; first | (rw [if_pos (by decide +kernel)]; kernel_rfl) | (rw [if_neg (by decide +kernel)]; exact ⟨rfl, rfl⟩))
    (fun os started H enc _ => lifted os started H enc)

theorem proved : Rows.NameLongCardSaid :=
  Claim7.holds_tied_plain_at .later [] [.data, .data, .data, .data, .pinned] true (true, "449e5db609fe44d1ca4a7c747dab489d97c37c91738f9d421f8cf2ac4b3a7664") false
    over (fun _ h => by cases h) (by kernel_rfl) (fun _ h => by cases h) nameLong_row_tie rfl ⟨rfl, rfl⟩ (by kernel_rfl) rfl
    (fun f fn hf hfn => by
      obtain rfl : f = 6 := Option.some.inj ((show Tryd.prog.funcNamed "hagioscope/hagioscopelaw14.NameLong" = some 6 by kernel_rfl).symm.trans hf) |>.symm
      obtain rfl : fn = Tryd.f6 := (Option.some.inj (Tryd.func6.symm.trans hfn)).symm
      exact ⟨by kernel_rfl, fun j t ht => by
        rw [Tryd.params6] at ht
        have hm : t ∈ [3, 3] := by simpa using Array.mem_of_getElem? ht
        have hall : ([3, 3].all fun u => !Tryd.prog.wantsStandIn u) = true := by kernel_rfl
        exact (show Tryd.prog.wantsStandIn t = false by simpa using List.all_eq_true.1 hall t hm)⟩)
    (by kernel_rfl)
#print axioms proved
end Go.Proofs.YtdofipjjodijcaaDoor.nameLong
