/-
  HttppeekTakes: what package httppeek knows of bytes, one by one, is what the document knows of each beginning; else the small case comes out right. Conditions: none beyond the statement's own.
-/
import Derived.Test.YtgbhnjkigjecmaaGreatDoorQ31
import Derived.Test.YtgbhnjkigjecmaaGreatDoorQ32
import Derived.Test.YtgbhnjkigjecmaaGreatDoorQ44
import Derived.Test.YtgbhnjkigjecmaaGreatDoorCards
import Derived.Test.YtgbhnjkigjecmaaGreatDoorTie
set_option maxRecDepth 100000
namespace Go.Proofs.YtgbhnjkigjecmaaGreatDoor.httppeekTakes
open Go.ChangeMaps (open_string shut_string)
open Go.ChangeShapes Go.WideShapes Go.ChangeAt Go.RowKit Go.Proofs.YtgbhnjkigjecmaaGreatDoor.Wd Go.Proofs.YtgbhnjkigjecmaaGreatDoor.Hp Go.Proofs.YtgbhnjkigjecmaaGreatDoor.Lift

open Go.Proofs.YtgbhnjkigjecmaaGreatDoor.St (hd_take)
set_option linter.unusedSimpArgs false in
set_option maxHeartbeats 16000000 in
theorem walk (W : World) (A : Option Addr) (n cap : Nat) (xs : List UInt8) (le0 : n ≤ cap) (mx : cap ≤ maxLen) (src : Src W A n xs) (hE : Ad.Env W.heap.size W) :
    Calls Tryz.prog 4 #[.slice A n cap] W fun e w' => e = .returned (.bool true) ∧ Below W.heap.size W w' := by
  have hn9 : n ≤ 9223372036854775807 := Nat.le_trans le0 mx
  have HS := Lib.hid src
  have HE := Lib.hid hE
  have HLe := Lib.hid le0
  have HSm := Lib.hid (small_any W hE)
  clear hE mx src le0
  go_enter Tryz.func4, Tryz.ntmps4
  go_wp2_with fail
  refine HSm.out.mono ?_
  rintro e w1 ⟨rfl, hb⟩
  have HL1 := Lib.hid hb
  clear hb HSm
  go_wp2_with fail
  refine (new_any w1).mono ?_
  rintro e w2 ⟨g, rfl, hP, hfar, hb⟩
  have HP2 := Lib.hid hP
  have HL2 := Lib.hid (HL1.out.trans (hb.mono HL1.out.size))
  have HF2 := Lib.hid (show ∀ i ∈ g :: ([] : List Nat), W.heap.size ≤ i from fun i hi => by have := List.mem_singleton.1 hi; have := HL1.out.size; omega)
  clear hP hfar hb HL1
  by_cases h1 : 400 < n
  · have i1 : decide ((400 : Int) < (n : Int)) = true := decide_eq_true (by omega)
    clear h1
    go_wp2_with fail
    go_ret
    exact ⟨rfl, HL2.out⟩
  have i1 : decide ((400 : Int) < (n : Int)) = false := decide_eq_false (by omega)
  have hn : n ≤ 400 := by omega
  clear h1
  have hnl := HS.out.1
  go_wp2_with fail
  go_loopw [5] (fun i wr => ∃ k : Nat, k ≤ n ∧ i = .int .i64 (k : Int) ∧ Hid (∃ S, Pk wr g S (allH (xs.take k)) ∧ (∀ i ∈ g :: S, W.heap.size ≤ i) ∧ Below W.heap.size W wr)) (fun i _ => n - (intOf i).toNat)
  case atStart => exact ⟨0, Nat.zero_le _, rfl, Lib.hid ⟨[], HP2.out, HF2.out, HL2.out⟩⟩
  case round =>
    clear HP2 HF2 HL2
    obtain ⟨k, hk, rfl, HR⟩ := hrel
    obtain ⟨S, hP, hF, hL⟩ := HR.out
    have HF := Lib.hid hF
    have HL := Lib.hid hL
    have HP := Lib.hid hP
    clear hP hF hL HR
    by_cases hlt : k < n
    · have hki : (k : Int) < (n : Int) := by omega
      obtain ⟨ad, rfl, hadb, hc⟩ := HS.out.2 (by omega)
      obtain ⟨c, hx⟩ : ∃ c, xs[k]? = some c := ⟨_, List.getElem?_eq_getElem (by omega)⟩
      have HCell := Lib.hid (fun w' (hb : Below W.heap.size W w') => show w'.cell? (ad.add k) = some (.int .u8 (c.toNat : Int)) from (hb.cell (by rw [block_of_add]; exact hadb)).trans (hc k c hx))
      have hun : (allH (xs.take k)).u ≤ 1000000 := by
        have h := allH_u (xs.take k)
        rw [List.length_take] at h
        omega
      have hdr : Below wr.heap.size wr wr.drew := (Below.refl _ _).drew
      have HLd := Lib.hid (show Below W.heap.size W wr.drew from HL.out.trans (hdr.mono HL.out.size))
      have HTk := Lib.hid (take_any (HE.out.below HLd.out) HF.out (HP.out.below hdr) hun c)
      rw [← allH_next hx] at HTk
      have HRf := Lib.hid (fun w (hb : Below W.heap.size W w) => rall_any (some ad) (k + 1) cap (xs.take (k + 1)) w ((HS.out.below hb).take (by omega)) (by omega) (by have := HLe.out; omega))
      unfold AllHP at HRf
      have hsl : ∀ w', (Instr.sliceAt 22 (.slice (some ad) n cap) none (some (.int .i64 ((k : Int) + 1))) none).run Tryz.prog w' = .ok (.slice (some ad) (k + 1) cap) w' := fun w' => by
        have h := slice_to und8 siz8 (some ad) n cap w' (k + 1) (by have := HLe.out; omega)
        rwa [show (((k + 1 : Nat)) : Int) = (k : Int) + 1 from by omega] at h
      have hsd : W.heap.size ≤ wr.drew.heap.size := HLd.out.size
      have HSd := Lib.hid hsd
      clear hc hx hun hdr hsd HP HL
      obtain ⟨t, ht⟩ : ∃ t, allH (xs.take (k + 1)) = t := ⟨_, rfl⟩
      have HTt := Lib.hid ht
      rw [ht] at HTk HRf
      clear ht
      go_upto_region 8 with fail
      refine wp_region_held_drew (S := fun w' => w'.cell? (ad.add k) = some (.int .u8 (c.toNat : Int))) (by kernel_rfl) (HCell.out _ HLd.out) (fun h0 => ?_)
      refine hd_take 0 (some 26) (.pointer (some ⟨g, 0, none⟩)) rfl rfl (by kernel_rfl) (by kernel_rfl) (by kernel_rfl) (fun _ _ _ h => h) (Or.inl ⟨by rfl, fun w hw => by go_simp⟩) h0 ?_
      simp only [Act.put, List.setIfInBounds_toArray, List.set_cons_zero, List.set_cons_succ]
      refine hd_take 1 (some 27) (.slice (some ad) n cap) rfl rfl (by kernel_rfl) (by kernel_rfl) (by kernel_rfl) (fun _ _ _ h => h) (Or.inl ⟨by rfl, fun w hw => by go_simp⟩) h0 ?_
      simp only [Act.put, List.setIfInBounds_toArray, List.set_cons_zero, List.set_cons_succ]
      refine hd_take 2 (some 28) (.int .i64 (k : Int)) rfl rfl (by kernel_rfl) (by kernel_rfl) (by kernel_rfl) (fun _ _ _ h => h) (Or.inl ⟨by rfl, fun w hw => by go_simp⟩) h0 ?_
      simp only [Act.put, List.setIfInBounds_toArray, List.set_cons_zero, List.set_cons_succ]
      refine hd_take 3 (some 29) (.pointer (some (ad.add k))) rfl rfl (by kernel_rfl) (by kernel_rfl) (by kernel_rfl) (fun _ _ _ h => h) (Or.inl ⟨by rfl, fun w hw => by go_simp⟩) h0 ?_
      simp only [Act.put, List.setIfInBounds_toArray, List.set_cons_zero, List.set_cons_succ]
      refine hd_take 4 (some 30) (.int .u8 (c.toNat : Int)) rfl rfl (by kernel_rfl) (by kernel_rfl) (by kernel_rfl) (fun _ _ _ h => h) (Or.inl ⟨by rfl, fun w hw => by have hx := hw; go_simp⟩) h0 ?_
      simp only [Act.put, List.setIfInBounds_toArray, List.set_cons_zero, List.set_cons_succ]
      refine hd_take 6 (some 32) (.slice (some ad) n cap) rfl rfl (by kernel_rfl) (by kernel_rfl) (by kernel_rfl) (fun _ _ _ h => h) (Or.inl ⟨by rfl, fun w hw => by go_simp⟩) h0 ?_
      simp only [Act.put, List.setIfInBounds_toArray, List.set_cons_zero, List.set_cons_succ]
      refine hd_take 7 (some 33) (.int .i64 (k : Int)) rfl rfl (by kernel_rfl) (by kernel_rfl) (by kernel_rfl) (fun _ _ _ h => h) (Or.inl ⟨by rfl, fun w hw => by go_simp⟩) h0 ?_
      simp only [Act.put, List.setIfInBounds_toArray, List.set_cons_zero, List.set_cons_succ]
      refine hd_take 8 (some 34) (.int .i64 ((k : Int) + 1)) rfl rfl (by kernel_rfl) (by kernel_rfl) (by kernel_rfl) (fun _ _ _ h => h) (Or.inl ⟨by rfl, fun w hw => by go_simp <;> (first | exact IntWalk.i64_in _ (by omega) | (rw [IntWalk.i64_in _ (by omega)]; omega))⟩) h0 ?_
      simp only [Act.put, List.setIfInBounds_toArray, List.set_cons_zero, List.set_cons_succ]
      refine hd_take 9 (some 35) (.slice (some ad) (k + 1) cap) rfl rfl (by kernel_rfl) (by kernel_rfl) (by kernel_rfl) (fun _ _ _ h => h) (Or.inl ⟨by rfl, fun w hw => by have hx := hsl w; go_simp⟩) h0 ?_
      simp only [Act.put, List.setIfInBounds_toArray, List.set_cons_zero, List.set_cons_succ]
      refine wpAnyH_ready (rs := [5]) (by kernel_rfl) (by simp) (AllReadyH.cons rfl (fun K1 hK => ?_) AllReadyH.nil)
      go_simp
      go_wp2_with (go_at_call 14; refine HTk.out.mono ?_; rintro e w4 ⟨S', rfl, hP, hS, hB⟩; have HP4 := Lib.hid hP; have HL4 := Lib.hid (HLd.out.trans (hB.below HF.out HSd.out)); have HF4 := Lib.hid (show ∀ i ∈ g :: S', W.heap.size ≤ i from fun i hi => (List.mem_cons.1 hi).elim (fun e => by rw [e]; exact HF.out g (by simp)) (fun hm => (hS i hm).elim (fun h => HF.out i (List.mem_cons_of_mem _ h)) (fun h => Nat.le_trans HSd.out h))); clear hP hS hB)
      refine hK.out _ _ (HCell.out _ HL4.out) (fun h1 => ?_)
      clear hK K1
      refine wpAnyH_ready (rs := [10]) (by kernel_rfl) (by simp) (AllReadyH.cons rfl (fun K1 hK => ?_) AllReadyH.nil)
      go_simp
      go_wp2_with (go_at_call 12; refine (HRf.out _ HL4.out).mono ?_; rintro e w5 ⟨rfl, hb⟩; have HP5 := Lib.hid (HP4.out.below hb); have HL5 := Lib.hid (HL4.out.trans (hb.mono HL4.out.size)); clear hb)
      refine hK.out _ _ (HCell.out _ HL5.out) (fun h2 => ?_)
      clear hK K1
      refine wpAnyH_ready (rs := [11]) (by kernel_rfl) (by simp) (AllReadyH.cons rfl (fun K1 hK => ?_) AllReadyH.nil)
      go_simp
      go_wp2_with (go_at_call 10; refine (samev_any _ _ _ _ _ _ w5).mono ?_; rintro e w6 ⟨rfl, hb⟩; have HP6 := Lib.hid (HP5.out.below hb); have HL6 := Lib.hid (HL5.out.trans (hb.mono HL5.out.size)); clear hb)
      refine hK.out _ _ (HCell.out _ HL6.out) (fun h3 => ?_)
      clear hK K1
      refine hd_take 12 (some 38) (.bool false) rfl rfl (by kernel_rfl) (by kernel_rfl) (by kernel_rfl) (fun _ _ _ h => h) (Or.inl ⟨by rfl, fun w hw => by go_simp⟩) h3 ?_
      simp only [Act.put, List.setIfInBounds_toArray, List.set_cons_zero, List.set_cons_succ]
      refine wpAnyH_done (by kernel_rfl) ?_ _
      have HN : Hid (∃ S, Pk w6 g S (allH (xs.take (k + 1))) ∧ (∀ i ∈ g :: S, W.heap.size ≤ i) ∧ Below W.heap.size W w6) := Lib.hid ⟨S', by rw [HTt.out]; exact HP6.out, HF4.out, HL6.out⟩
      clear h0 h1 h2 h3 hsl HP4 HL4 HF4 HP5 HL5 HP6 HL6 HTt HRf HTk HLd HCell HSd HF
      go_wp2_with fail
      go_roundw
      case rel => exact ⟨k + 1, hlt, by go_num, HN⟩
      case measure => simp [intOf]; omega
    · obtain rfl : k = n := by omega
      go_wp2_with fail
      go_ret
      exact ⟨rfl, HL.out⟩

set_option maxRecDepth 100000 in
set_option linter.unusedVariables false in
theorem lifted (os : Os) (started : os.Started) (H : Type) (enc : TypeId × Value → H) :
    ReturnsInHanded {} Tryz.checked os 4 .any (fun w args => (Rows.httppeekTakesSpec.pre enc Tryz.prog Tryz.f4 [] false w args ∧ laidMetH Tryz.prog laid5 w) ∧ sizedMet enc Tryz.prog Tryz.f4 (OpenSpec.ofChange Rows.httppeekTakesSpec) false w args)
      (Rows.httppeekTakesSpec.post enc Tryz.prog Tryz.f4 false true false false) := by
  refine returns_laid (C := Tryz.checked) (X := fun w _ => laidMetH Tryz.prog laid5 w) (fun _ _ _ hh h => h.of_heap hh) own started (by kernel_rfl) Tryz.func4
    (ChangeSpec.witness_shaped (enc := enc) (C := Tryz.checked) (os := os) (X := fun w _ => laidMetH Tryz.prog laid5 w) false (World.laidAll Tryz.prog os laid5) #[.slice none 0 0] 8 (World.laidAll_os _ _ _)
      (World.shaped_of_ZipB (by kernel_rfl) (by kernel_rfl)) (by kernel_rfl) (by kernel_rfl) (by kernel_rfl) (door_met5 os _)) ?_
  intro W base args ds gs before hval0 hW hL hshp
  have hE := env_of5 hL hshp
  have hval : ∀ (j : Nat) t v, Tryz.f4.params[j]? = some t → args[j]? = some v → Value.okWide Tryz.prog W .any base t v := hval0
  have hW' := hW
  obtain ⟨p, q, hA0, hV, rfl, hfz, hnd⟩ := hW
  have hA : DataW.TrodAll enc Tryz.prog W 0 (fun _ => true) true Tryz.f4.params.toList args.toList ds p := hA0
  rw [Tryz.params4] at hA hval
  obtain ⟨v0, vs0, d0, ds0, p0, q0, hargs, rfl, rfl, h0, r0⟩ := trodAll_cons hA
  obtain ⟨rfl, rfl, rfl⟩ := trodAll_nil r0
  obtain rfl : args = #[v0] := by cases args; simp_all
  obtain ⟨rfl, rfl⟩ := trodVars_none hV
  have k0 := h0
  have lt0 : ∀ x ∈ p0, x.block < W.heap.size := by obtain ⟨m, hm⟩ := k0; exact DataW.trod_lt m _ _ _ hm
  obtain ⟨A0, n0, cap0, xs0, rfl, le0, mx0, src0⟩ := open_bytes (hval 0 22 v0 rfl rfl) h0
  clear hA0 hval0
  refine (walk W A0 n0 cap0 xs0 le0 mx0 src0 hE).mono fun e W' ⟨he, bel⟩ => ?_
  subst he
  exact ⟨_, rfl, _, _, _, [], _, [], hW', trodAll_mk1 (shut_bool Tryz.underlying4 _), (trodAll_cons_mk (Below.trod Lift.laidOut (by kernel_rfl) (of_decide_eq_true (by kernel_rfl)) k0 bel lt0) trodAll_mk0), rfl, bel.frame _, fun h => by cases h⟩

theorem over : Rows.httppeekTakesRow.holds Tryz.pinned (OpenSpec.ofChange Rows.httppeekTakesSpec) :=
  OpenClaim.holds_of_wide 4 Tryz.f4 rfl rfl rfl rfl rfl rfl rfl ⟨rfl, rfl, rfl, rfl, rfl⟩ rfl rfl rfl rfl rfl (by kernel_rfl) Tryz.func4 (by kernel_rfl)
    (of_decide_eq_true (by kernel_rfl)) (by unfold Func.isWrapper; first | (rw [if_pos (by decide +kernel)]; kernel_rfl) | (rw [if_neg (by decide +kernel)]; exact ⟨rfl, rfl⟩))
    (fun os started H enc _ => lifted os started H enc)

theorem proved : Rows.HttppeekTakesCardSaid :=
  Claim7.holds_tied_plain_at .later [] [.data, .data, .data, .data, .pinned] true (true, "dfae010f2981ed81a80978e863881a0f4d162522d3e968cd557793b55fa30f83") false
    over (fun _ h => by cases h) (by kernel_rfl) (fun _ h => by cases h) httppeekTakes_row_tie rfl ⟨rfl, rfl⟩ (by kernel_rfl) rfl
    (fun f fn hf hfn => by
      obtain rfl : f = 4 := Option.some.inj ((show Tryz.prog.funcNamed "hagioscope/hagioscopelaw16.HttppeekTakes" = some 4 by kernel_rfl).symm.trans hf) |>.symm
      obtain rfl : fn = Tryz.f4 := (Option.some.inj (Tryz.func4.symm.trans hfn)).symm
      exact ⟨by kernel_rfl, fun j t ht => by
        rw [Tryz.params4] at ht
        have hm : t ∈ [22] := by simpa using Array.mem_of_getElem? ht
        have hall : ([22].all fun u => !Tryz.prog.wantsStandIn u) = true := by kernel_rfl
        exact (show Tryz.prog.wantsStandIn t = false by simpa using List.all_eq_true.1 hall t hm)⟩)
    (by kernel_rfl)
#print axioms proved
end Go.Proofs.YtgbhnjkigjecmaaGreatDoor.httppeekTakes
