/-
  HttppeekMany: there may be as many fields as there may, and no more; else the small case comes out right. Conditions: none beyond the statement's own.
-/
import Derived.Test.YtgbhnjkigjecmaaGreatDoorQ31
import Derived.Test.YtgbhnjkigjecmaaGreatDoorQ32
import Derived.Test.YtgbhnjkigjecmaaGreatDoorQ28
import Derived.Test.YtgbhnjkigjecmaaGreatDoorCards
import Derived.Test.YtgbhnjkigjecmaaGreatDoorTie
set_option maxRecDepth 100000
namespace Go.Proofs.YtgbhnjkigjecmaaGreatDoor.httppeekMany
open Go.ChangeMaps (open_string shut_string)
open Go.ChangeShapes Go.WideShapes Go.ChangeAt Go.RowKit Go.Proofs.YtgbhnjkigjecmaaGreatDoor.Wd Go.Proofs.YtgbhnjkigjecmaaGreatDoor.Hp Go.Proofs.YtgbhnjkigjecmaaGreatDoor.Lift

open Go.Proofs.YtgbhnjkigjecmaaGreatDoor.Asc Go.Proofs.YtgbhnjkigjecmaaGreatDoor.Tx
set_option linter.unusedSimpArgs false in
set_option maxHeartbeats 16000000 in
theorem walk (W : World) (n : Int) (lo : -9223372036854775808 ≤ n ∧ n ≤ 9223372036854775807) (hE : Ad.Env W.heap.size W) :
    Calls Tryz.prog 7 #[.int .i64 n] W fun e w' => e = .returned (.bool true) ∧ Below W.heap.size W w' := by
  have HE := Lib.hid hE
  have HSm := Lib.hid (small_any W hE)
  clear hE
  go_enter Tryz.func7, Tryz.ntmps7
  go_wp2_with fail
  refine HSm.out.mono ?_
  rintro e w1 ⟨rfl, hb⟩
  have HL1 := Lib.hid hb
  clear hb HSm
  by_cases h0 : n < 0
  · have i0 : decide (n < 0) = true := decide_eq_true h0
    clear h0
    go_wp2_with fail
    go_ret
    exact ⟨rfl, HL1.out⟩
  have i0 : decide (n < 0) = false := decide_eq_false h0
  by_cases h1 : 130 < n
  · have i1 : decide (130 < n) = true := decide_eq_true h1
    clear h0 h1
    go_wp2_with fail
    go_ret
    exact ⟨rfl, HL1.out⟩
  have i1 : decide (130 < n) = false := decide_eq_false h1
  obtain ⟨m, rfl⟩ : ∃ m : Nat, n = (m : Int) := ⟨n.toNat, by omega⟩
  have hm : m ≤ 130 := by omega
  clear h0 h1 lo
  have hS0 : (⟨#[71, 69, 84, 32, 47, 32, 72, 84, 84, 80, 47, 49, 46, 49, 13, 10, 72, 111, 115, 116, 58, 32, 97, 13, 10]⟩ : ByteArray) = str (rowM 0) := bs_inj (by rw [bs_str]; decide)
  have HS0 := Lib.hid hS0
  have HN := Lib.hid (fun k => show str (rowM k) ++ (⟨#[98, 58, 32, 99, 13, 10]⟩ : ByteArray) = str (rowM (k + 1)) from bs_inj (by rw [Asc.bs_add, bs_str, bs_str, rowM_next]; rfl))
  have HZ := Lib.hid (fun k => show (str (rowM k)).size = 25 + 6 * k by rw [str_size, rowM_len])
  clear hS0
  go_wp2_with fail
  go_loop [4, 5] (fun s i => ∃ k : Nat, ∃ S : ByteArray, s = .string S ∧ i = .int .i64 (k : Int) ∧ k ≤ m ∧ Hid (S = str (rowM k)) ∧ S.size ≤ 1000) (fun _ i => m - (intOf i).toNat)
  case atStart => exact ⟨0, _, rfl, rfl, by omega, HS0, by decide⟩
  case round =>
    obtain ⟨k, S, rfl, rfl, hk, HS, hz⟩ := hrel
    by_cases hlt : (k : Int) < (m : Int)
    · go_wp2
      go_round
      case rel => exact ⟨k + 1, S ++ ⟨#[98, 58, 32, 99, 13, 10]⟩, rfl, by go_num, by omega, Lib.hid (by rw [HS.out]; exact HN.out k), by rw [HS.out, HN.out, HZ.out]; omega⟩
      case measure => simp [intOf]; omega
    · obtain rfl : k = m := by omega
      have hSz : S.size = 25 + 6 * k := by rw [HS.out]; exact HZ.out k
      have hT : S ++ (⟨#[13, 10]⟩ : ByteArray) = str (rowM k ++ [13, 10]) := by rw [HS.out]; exact bs_inj (by rw [Asc.bs_add, bs_str, bs_str]; rfl)
      obtain ⟨X, hX⟩ : ∃ X, rowM k ++ [13, 10] = X := ⟨_, rfl⟩
      rw [hX] at hT
      have hXl : X.length = 27 + 6 * k := by rw [← hX, List.length_append, rowM_len]; simp; omega
      have hfew : k ≤ 99 → (allH X).z = 1 ∧ (allH X).h = [97] ∧ (allH X).u = 27 + 6 * k := by rw [← hX]; exact few_known
      have hmore : 100 ≤ k → (allH X).z = 2 ∧ (allH X).r = 2 ∧ (allH X).u = 625 := by rw [← hX]; exact more_known
      clear hX
      obtain ⟨c, w2, hcv, hs2, hb2, hc2⟩ := bytes_str X w1
      rw [← hT] at hcv
      have HB2 := Lib.hid (HL1.out.trans (hb2.mono HL1.out.size))
      have HA := Lib.hid (all_any (B := W.heap.size) _ X.length c X w2 (HE.out.below HB2.out) hs2 (by omega))
      unfold AllHP at HA
      rw [hXl] at HA
      obtain ⟨t, ht⟩ : ∃ t, allH X = t := ⟨_, rfl⟩
      rw [ht] at HA hfew hmore
      have Hf := Lib.hid hfew
      have Hm := Lib.hid hmore
      clear ht hfew hmore hb2 hs2 hT
      go_wp2_with fail
      refine HA.out.mono ?_
      rintro e' w3 ⟨rfl, hb⟩
      have HL3 := Lib.hid (HB2.out.trans (hb.mono HB2.out.size))
      clear hb HA HB2 hcv
      go_upto_region 10 with (refine St.go_st 31 (Blk.new _ _ _) infV rfl (vH_size _ _ _ _ _ _) (vH_one _ _ _ _ _ _) rfl rfl rfl rfl ?_)
      obtain ⟨hk1, hb⟩ := verd_new w3 (vH (t.z : Int) 2 (t.u : Int) t.r ⟨t.h.toArray⟩ t.p)
      have HL4 := Lib.hid (HL3.out.trans (hb.mono HL3.out.size))
      have HK := Lib.hid hk1
      clear hk1 hb HL3
      generalize (w3.alloc (.cells #[Value.int .i64 0, .int .i64 0, .int .i64 0, .int .i64 0, .string ⟨#[]⟩, .int .i64 0, .bool false, .string ⟨#[]⟩, .slice none 0 0, .slice none 0 0, .bool false] 31)).setRow w3.heap.size (vH (t.z : Int) 2 (t.u : Int) t.r ⟨t.h.toArray⟩ t.p) = w4 at *
      obtain ⟨G, hg⟩ : ∃ g, w3.heap.size = g := ⟨_, rfl⟩
      rw [hg] at HK
      rw [hg]
      clear hg
      have k0 : w4.cell? ⟨G, 0, none⟩ = some (.int .i64 (t.z : Int)) := by rw [HK.out.cell]; rfl
      have k2 : w4.cell? ⟨G, 2, none⟩ = some (.int .i64 (t.u : Int)) := by rw [HK.out.cell]; rfl
      have k3 : w4.cell? ⟨G, 3, none⟩ = some (.int .i64 t.r) := by rw [HK.out.cell]; rfl
      have k4 : w4.cell? ⟨G, 4, none⟩ = some (.string ⟨t.h.toArray⟩) := by rw [HK.out.cell]; rfl
      by_cases h9 : 99 < k
      · have i9 : decide ((99 : Int) < (k : Int)) = true := decide_eq_true (by omega)
        obtain ⟨a1, a2, a3⟩ := Hm.out (by omega)
        rw [a1] at k0
        rw [a2] at k3
        rw [a3] at k2
        clear a1 a2 a3 Hf Hm k4 h9
        go_wp2_with fail
        go_ret
        exact ⟨rfl, HL4.out⟩
      · have i9 : decide ((99 : Int) < (k : Int)) = false := decide_eq_false (by omega)
        obtain ⟨a1, a2, a3⟩ := Hf.out (by omega)
        rw [a1] at k0
        rw [a2] at k4
        rw [a3] at k2
        have e9 : ((27 : Int) + 6 * (k : Int) == 25 + 6 * (k : Int) + 2) = true := by rw [beq_iff_eq]; omega
        clear a1 a2 a3 Hf Hm k3 h9
        go_wp2_with fail
        go_ret
        exact ⟨rfl, HL4.out⟩

set_option maxRecDepth 100000 in
set_option linter.unusedVariables false in
theorem lifted (os : Os) (started : os.Started) (H : Type) (enc : TypeId × Value → H) :
    ReturnsInHanded {} Tryz.checked os 7 .any (fun w args => (Rows.httppeekManySpec.pre enc Tryz.prog Tryz.f7 [] false w args ∧ laidMetH Tryz.prog laid5 w) ∧ sizedMet enc Tryz.prog Tryz.f7 (OpenSpec.ofChange Rows.httppeekManySpec) false w args)
      (Rows.httppeekManySpec.post enc Tryz.prog Tryz.f7 false true false false) := by
  refine returns_laid (C := Tryz.checked) (X := fun w _ => laidMetH Tryz.prog laid5 w) (fun _ _ _ hh h => h.of_heap hh) own started (by kernel_rfl) Tryz.func7
    (ChangeSpec.witness_shaped (enc := enc) (C := Tryz.checked) (os := os) (X := fun w _ => laidMetH Tryz.prog laid5 w) false (World.laidAll Tryz.prog os laid5) #[.int .i64 0] 8 (World.laidAll_os _ _ _)
      (World.shaped_of_ZipB (by kernel_rfl) (by kernel_rfl)) (by kernel_rfl) (by kernel_rfl) (by kernel_rfl) (door_met5 os _)) ?_
  intro W base args ds gs before hval0 hW hL hshp
  have hE := env_of5 hL hshp
  have hval : ∀ (j : Nat) t v, Tryz.f7.params[j]? = some t → args[j]? = some v → Value.okWide Tryz.prog W .any base t v := hval0
  have hW' := hW
  obtain ⟨p, q, hA0, hV, rfl, hfz, hnd⟩ := hW
  have hA : DataW.TrodAll enc Tryz.prog W 0 (fun _ => true) true Tryz.f7.params.toList args.toList ds p := hA0
  rw [Tryz.params7] at hA hval
  obtain ⟨v0, vs0, d0, ds0, p0, q0, hargs, rfl, rfl, h0, r0⟩ := trodAll_cons hA
  obtain ⟨rfl, rfl, rfl⟩ := trodAll_nil r0
  obtain rfl : args = #[v0] := by cases args; simp_all
  obtain ⟨rfl, rfl⟩ := trodVars_none hV
  have k0 := h0
  have lt0 : ∀ x ∈ p0, x.block < W.heap.size := by obtain ⟨m, hm⟩ := k0; exact DataW.trod_lt m _ _ _ hm
  obtain ⟨a0, rfl, rfl, rfl, w0⟩ := open_int Tryz.underlying3 (hval 0 3 v0 rfl rfl) h0
  have b0 := int_of w0
  clear hA0 hval0
  refine (walk W a0 b0 hE).mono fun e W' ⟨he, bel⟩ => ?_
  subst he
  exact ⟨_, rfl, _, _, _, [], _, [], hW', trodAll_mk1 (shut_bool Tryz.underlying4 _), (trodAll_cons_mk (Below.trod Lift.laidOut (by kernel_rfl) (of_decide_eq_true (by kernel_rfl)) k0 bel lt0) trodAll_mk0), rfl, bel.frame _, fun h => by cases h⟩

theorem over : Rows.httppeekManyRow.holds Tryz.pinned (OpenSpec.ofChange Rows.httppeekManySpec) :=
  OpenClaim.holds_of_wide 7 Tryz.f7 rfl rfl rfl rfl rfl rfl rfl ⟨rfl, rfl, rfl, rfl, rfl⟩ rfl rfl rfl rfl rfl (by kernel_rfl) Tryz.func7 (by kernel_rfl)
    (of_decide_eq_true (by kernel_rfl)) (by unfold Func.isWrapper; first | (rw [if_pos (by decide +kernel)]; kernel_rfl) | (rw [if_neg (by decide +kernel)]; exact ⟨rfl, rfl⟩))
    (fun os started H enc _ => lifted os started H enc)

theorem proved : Rows.HttppeekManyCardSaid :=
  Claim7.holds_tied_plain_at .later [] [.data, .data, .data, .data, .pinned] true (true, "dfae010f2981ed81a80978e863881a0f4d162522d3e968cd557793b55fa30f83") false
    over (fun _ h => by cases h) (by kernel_rfl) (fun _ h => by cases h) httppeekMany_row_tie rfl ⟨rfl, rfl⟩ (by kernel_rfl) rfl
    (fun f fn hf hfn => by
      obtain rfl : f = 7 := Option.some.inj ((show Tryz.prog.funcNamed "hagioscope/hagioscopelaw16.HttppeekMany" = some 7 by kernel_rfl).symm.trans hf) |>.symm
      obtain rfl : fn = Tryz.f7 := (Option.some.inj (Tryz.func7.symm.trans hfn)).symm
      exact ⟨by kernel_rfl, fun j t ht => by
        rw [Tryz.params7] at ht
        have hm : t ∈ [3] := by simpa using Array.mem_of_getElem? ht
        have hall : ([3].all fun u => !Tryz.prog.wantsStandIn u) = true := by kernel_rfl
        exact (show Tryz.prog.wantsStandIn t = false by simpa using List.all_eq_true.1 hall t hm)⟩)
    (by kernel_rfl)
#print axioms proved
end Go.Proofs.YtgbhnjkigjecmaaGreatDoor.httppeekMany
