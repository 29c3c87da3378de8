/-
  Contract of hagioscoperef03.Print at an address of four bytes.
-/
import Derived.Test.YtgbhnjkigjecmaaGreatDoorQ36
import Derived.Test.YtgbhnjkigjecmaaGreatDoorQ34
import Derived.Test.YtgbhnjkigjecmaaGreatDoorQ06
import Derived.Test.YtgbhnjkigjecmaaGreatDoorQ21
import Derived.Test.YtgbhnjkigjecmaaGreatDoorQ35
namespace Go.Proofs.YtgbhnjkigjecmaaGreatDoor.Ad
open Go.RowKit Go.Proofs.YtgbhnjkigjecmaaGreatDoor.Wd Go.Proofs.YtgbhnjkigjecmaaGreatDoor.Asc

theorem text4_form (a : List UInt8) (ha : a.length = 16) : ∃ b0 b1 b2 b3 : UInt8, a[12]? = some b0 ∧ a[13]? = some b1 ∧ a[14]? = some b2 ∧ a[15]? = some b3 ∧
    txtS b0.toNat ++ (⟨#[46]⟩ : ByteArray) ++ txtS b1.toNat ++ (⟨#[46]⟩ : ByteArray) ++ txtS b2.toNat ++ (⟨#[46]⟩ : ByteArray) ++ txtS b3.toNat = str (text4 a) := by
  match a, ha with
  | [a0, a1, a2, a3, a4, a5, a6, a7, a8, a9, a10, a11, a12, a13, a14, a15], _ =>
    refine ⟨a12, a13, a14, a15, rfl, rfl, rfl, rfl, ?_⟩
    have ht : ∀ c : UInt8, txtS c.toNat = str (Lib.itoa (c.toNat : Int)) := fun c => by rw [Lib.itoa_nonneg, ← txt_dec]; rfl
    rw [ht, ht, ht, ht, show (⟨#[46]⟩ : ByteArray) = str [46] from rfl, str_cat, str_cat, str_cat, str_cat, str_cat, str_cat]
    congr 1
    show _ = rowT 46 Lib.itoa [(a12.toNat : Int), (a13.toNat : Int), (a14.toNat : Int), (a15.toNat : Int)] 4
    simp [rowT]

set_option linter.unusedSimpArgs false in
set_option maxRecDepth 100000 in
set_option maxHeartbeats 4000000 in
theorem rprint_four (a : List UInt8) (ha : a.length = 16) (hf : fourS a = true) (w : World) :
    Calls Tryz.prog 84 #[.agg (cA a)] w fun e w' => e = .returned (.string (str (text4 a))) ∧ Below w.heap.size w w' := by
  have HF := Lib.hid hf
  obtain ⟨b0, b1, b2, b3, c0, c1, c2, c3, htx⟩ := text4_form a ha
  have HTX := Lib.hid htx
  clear hf htx
  go_enter Tryz.func84, Tryz.ntmps84
  have k0 := Blk.new w 72 (cA a)
  go_wp2_with (refine go_ld 72 k0 und16 rfl info16 (by rw [cA_size, ha]) rfl rfl rfl ?_)
  refine (rfour_any a ha _).mono ?_
  rintro e w1 ⟨rfl, hb1⟩
  rw [HF.out]
  have k1 := k0.below hb1 k0.lt
  have HL := Lib.hid (((Below.refl w.heap.size w).alloc (Nat.le_refl _) (.cells (cA a) 72)).trans (hb1.mono (by simp)))
  have d0 : w1.cell? ⟨w.heap.size, 12, none⟩ = some (.int .u8 (b0.toNat : Int)) := by rw [cell_a k1 12, c0]; rfl
  have d1 : w1.cell? ⟨w.heap.size, 13, none⟩ = some (.int .u8 (b1.toNat : Int)) := by rw [cell_a k1 13, c1]; rfl
  have d2 : w1.cell? ⟨w.heap.size, 14, none⟩ = some (.int .u8 (b2.toNat : Int)) := by rw [cell_a k1 14, c2]; rfl
  have d3 : w1.cell? ⟨w.heap.size, 15, none⟩ = some (.int .u8 (b3.toNat : Int)) := by rw [cell_a k1 15, c3]; rfl
  have e0 := b0.toNat_lt
  have e1 := b1.toNat_lt
  have e2 := b2.toNat_lt
  have e3 := b3.toNat_lt
  have z0 := txtS_size b0.toNat
  have z1 := txtS_size b1.toNat
  have z2 := txtS_size b2.toNat
  have z3 := txtS_size b3.toNat
  have T0 := Lib.hid (fun w => text_any b0.toNat _ w rfl (by omega))
  have T1 := Lib.hid (fun w => text_any b1.toNat _ w rfl (by omega))
  have T2 := Lib.hid (fun w => text_any b2.toNat _ w rfl (by omega))
  have T3 := Lib.hid (fun w => text_any b3.toNat _ w rfl (by omega))
  generalize txtS b0.toNat = s0 at *
  generalize txtS b1.toNat = s1 at *
  generalize txtS b2.toNat = s2 at *
  generalize txtS b3.toNat = s3 at *
  generalize b0.toNat = n0 at *
  generalize b1.toNat = n1 at *
  generalize b2.toNat = n2 at *
  generalize b3.toNat = n3 at *
  have hd : (⟨#[46]⟩ : ByteArray).size = 1 := rfl
  have y1 : (s0 ++ (⟨#[46]⟩ : ByteArray)).size ≤ 300 := by rw [ByteArray.size_append]; omega
  have y2 : (s0 ++ (⟨#[46]⟩ : ByteArray) ++ s1).size ≤ 600 := by rw [ByteArray.size_append]; omega
  have y3 : (s0 ++ (⟨#[46]⟩ : ByteArray) ++ s1 ++ (⟨#[46]⟩ : ByteArray)).size ≤ 700 := by rw [ByteArray.size_append]; omega
  have y4 : (s0 ++ (⟨#[46]⟩ : ByteArray) ++ s1 ++ (⟨#[46]⟩ : ByteArray) ++ s2).size ≤ 1000 := by rw [ByteArray.size_append]; omega
  have y5 : (s0 ++ (⟨#[46]⟩ : ByteArray) ++ s1 ++ (⟨#[46]⟩ : ByteArray) ++ s2 ++ (⟨#[46]⟩ : ByteArray)).size ≤ 1100 := by rw [ByteArray.size_append]; omega
  have x0 : s0.size ≤ 300 := by omega
  have x1 : s1.size ≤ 300 := by omega
  have x2 : s2.size ≤ 300 := by omega
  have x3 : s3.size ≤ 300 := by omega
  have i0 : IntKind.i64.wrap (n0 : Int) = (n0 : Int) := IntWalk.i64_in _ (by omega)
  have i1 : IntKind.i64.wrap (n1 : Int) = (n1 : Int) := IntWalk.i64_in _ (by omega)
  have i2 : IntKind.i64.wrap (n2 : Int) = (n2 : Int) := IntWalk.i64_in _ (by omega)
  have i3 : IntKind.i64.wrap (n3 : Int) = (n3 : Int) := IntWalk.i64_in _ (by omega)
  clear z0 z1 z2 z3 k0 k1 hb1 c0 c1 c2 c3 hd
  generalize hG : w.heap.size = G at *
  have HA := Lib.hid (show w1.drew.cell? ⟨G, 12, none⟩ = some (.int .u8 (n0 : Int)) ∧ w1.drew.cell? ⟨G, 13, none⟩ = some (.int .u8 (n1 : Int)) ∧ w1.drew.cell? ⟨G, 14, none⟩ = some (.int .u8 (n2 : Int)) ∧ w1.drew.cell? ⟨G, 15, none⟩ = some (.int .u8 (n3 : Int)) from ⟨d0, d1, d2, d3⟩)
  clear d0 d1 d2 d3
  go_wp2_with fail
  refine wp_region_held_drew (S := fun w' => w'.cell? ⟨G, 12, none⟩ = some (.int .u8 (n0 : Int)) ∧ w'.cell? ⟨G, 13, none⟩ = some (.int .u8 (n1 : Int)) ∧ w'.cell? ⟨G, 14, none⟩ = some (.int .u8 (n2 : Int)) ∧ w'.cell? ⟨G, 15, none⟩ = some (.int .u8 (n3 : Int))) (by kernel_rfl) HA.out (fun h0 => ?_)
  refine hd_take 0 (some 11) (.pointer (some ⟨G, 12, none⟩)) rfl rfl (by kernel_rfl) (by kernel_rfl) (by kernel_rfl) (fun _ _ _ h => h) (Or.inl ⟨by rfl, fun w hw => by go_simp <;> omega⟩) h0 ?_
  simp only [Act.put, List.setIfInBounds_toArray, List.set_cons_zero, List.set_cons_succ]
  refine hd_take 1 (some 12) (.int .u8 (n0 : Int)) rfl rfl (by kernel_rfl) (by kernel_rfl) (by kernel_rfl) (fun _ _ _ h => h) (Or.inl ⟨by rfl, fun w hw => by obtain ⟨q0, q1, q2, q3⟩ := hw; go_simp⟩) h0 ?_
  simp only [Act.put, List.setIfInBounds_toArray, List.set_cons_zero, List.set_cons_succ]
  refine hd_take 2 (some 13) (.int .i64 (n0 : Int)) rfl rfl (by kernel_rfl) (by kernel_rfl) (by kernel_rfl) (fun _ _ _ h => h) (Or.inl ⟨by rfl, fun w hw => by go_simp <;> omega⟩) h0 ?_
  simp only [Act.put, List.setIfInBounds_toArray, List.set_cons_zero, List.set_cons_succ]
  refine hd_take 5 (some 16) (.pointer (some ⟨G, 13, none⟩)) rfl rfl (by kernel_rfl) (by kernel_rfl) (by kernel_rfl) (fun _ _ _ h => h) (Or.inl ⟨by rfl, fun w hw => by go_simp <;> omega⟩) h0 ?_
  simp only [Act.put, List.setIfInBounds_toArray, List.set_cons_zero, List.set_cons_succ]
  refine hd_take 6 (some 17) (.int .u8 (n1 : Int)) rfl rfl (by kernel_rfl) (by kernel_rfl) (by kernel_rfl) (fun _ _ _ h => h) (Or.inl ⟨by rfl, fun w hw => by obtain ⟨q0, q1, q2, q3⟩ := hw; go_simp⟩) h0 ?_
  simp only [Act.put, List.setIfInBounds_toArray, List.set_cons_zero, List.set_cons_succ]
  refine hd_take 7 (some 18) (.int .i64 (n1 : Int)) rfl rfl (by kernel_rfl) (by kernel_rfl) (by kernel_rfl) (fun _ _ _ h => h) (Or.inl ⟨by rfl, fun w hw => by go_simp <;> omega⟩) h0 ?_
  simp only [Act.put, List.setIfInBounds_toArray, List.set_cons_zero, List.set_cons_succ]
  refine hd_take 11 (some 22) (.pointer (some ⟨G, 14, none⟩)) rfl rfl (by kernel_rfl) (by kernel_rfl) (by kernel_rfl) (fun _ _ _ h => h) (Or.inl ⟨by rfl, fun w hw => by go_simp <;> omega⟩) h0 ?_
  simp only [Act.put, List.setIfInBounds_toArray, List.set_cons_zero, List.set_cons_succ]
  refine hd_take 12 (some 23) (.int .u8 (n2 : Int)) rfl rfl (by kernel_rfl) (by kernel_rfl) (by kernel_rfl) (fun _ _ _ h => h) (Or.inl ⟨by rfl, fun w hw => by obtain ⟨q0, q1, q2, q3⟩ := hw; go_simp⟩) h0 ?_
  simp only [Act.put, List.setIfInBounds_toArray, List.set_cons_zero, List.set_cons_succ]
  refine hd_take 13 (some 24) (.int .i64 (n2 : Int)) rfl rfl (by kernel_rfl) (by kernel_rfl) (by kernel_rfl) (fun _ _ _ h => h) (Or.inl ⟨by rfl, fun w hw => by go_simp <;> omega⟩) h0 ?_
  simp only [Act.put, List.setIfInBounds_toArray, List.set_cons_zero, List.set_cons_succ]
  refine hd_take 17 (some 28) (.pointer (some ⟨G, 15, none⟩)) rfl rfl (by kernel_rfl) (by kernel_rfl) (by kernel_rfl) (fun _ _ _ h => h) (Or.inl ⟨by rfl, fun w hw => by go_simp <;> omega⟩) h0 ?_
  simp only [Act.put, List.setIfInBounds_toArray, List.set_cons_zero, List.set_cons_succ]
  refine hd_take 18 (some 29) (.int .u8 (n3 : Int)) rfl rfl (by kernel_rfl) (by kernel_rfl) (by kernel_rfl) (fun _ _ _ h => h) (Or.inl ⟨by rfl, fun w hw => by obtain ⟨q0, q1, q2, q3⟩ := hw; go_simp⟩) h0 ?_
  simp only [Act.put, List.setIfInBounds_toArray, List.set_cons_zero, List.set_cons_succ]
  refine hd_take 19 (some 30) (.int .i64 (n3 : Int)) rfl rfl (by kernel_rfl) (by kernel_rfl) (by kernel_rfl) (fun _ _ _ h => h) (Or.inl ⟨by rfl, fun w hw => by go_simp <;> omega⟩) h0 ?_
  simp only [Act.put, List.setIfInBounds_toArray, List.set_cons_zero, List.set_cons_succ]
  refine wpAnyH_ready (rs := [3]) (by kernel_rfl) (by simp) (AllReadyH.cons rfl (fun K hK => ?_) AllReadyH.nil)
  go_simp
  go_wp2_with (go_at_call 126; refine (T0.out _).mono ?_; rintro e w4 ⟨rfl, rfl⟩)
  refine hK.out _ _ HA.out (fun h0 => ?_)
  clear hK K
  refine hd_take 4 (some 15) (.string (s0 ++ (⟨#[46]⟩ : ByteArray))) rfl rfl (by kernel_rfl) (by kernel_rfl) (by kernel_rfl) (fun _ _ _ h => h) (Or.inl ⟨by rfl, fun w hw => by go_simp <;> omega⟩) h0 ?_
  simp only [Act.put, List.setIfInBounds_toArray, List.set_cons_zero, List.set_cons_succ]
  refine wpAnyH_ready (rs := [8]) (by kernel_rfl) (by simp) (AllReadyH.cons rfl (fun K hK => ?_) AllReadyH.nil)
  go_simp
  go_wp2_with (go_at_call 126; refine (T1.out _).mono ?_; rintro e w4 ⟨rfl, rfl⟩)
  refine hK.out _ _ HA.out (fun h0 => ?_)
  clear hK K
  refine hd_take 9 (some 20) (.string (s0 ++ (⟨#[46]⟩ : ByteArray) ++ s1)) rfl rfl (by kernel_rfl) (by kernel_rfl) (by kernel_rfl) (fun _ _ _ h => h) (Or.inl ⟨by rfl, fun w hw => by go_simp <;> omega⟩) h0 ?_
  simp only [Act.put, List.setIfInBounds_toArray, List.set_cons_zero, List.set_cons_succ]
  refine hd_take 10 (some 21) (.string (s0 ++ (⟨#[46]⟩ : ByteArray) ++ s1 ++ (⟨#[46]⟩ : ByteArray))) rfl rfl (by kernel_rfl) (by kernel_rfl) (by kernel_rfl) (fun _ _ _ h => h) (Or.inl ⟨by rfl, fun w hw => by go_simp <;> omega⟩) h0 ?_
  simp only [Act.put, List.setIfInBounds_toArray, List.set_cons_zero, List.set_cons_succ]
  refine wpAnyH_ready (rs := [14]) (by kernel_rfl) (by simp) (AllReadyH.cons rfl (fun K hK => ?_) AllReadyH.nil)
  go_simp
  go_wp2_with (go_at_call 126; refine (T2.out _).mono ?_; rintro e w4 ⟨rfl, rfl⟩)
  refine hK.out _ _ HA.out (fun h0 => ?_)
  clear hK K
  refine hd_take 15 (some 26) (.string (s0 ++ (⟨#[46]⟩ : ByteArray) ++ s1 ++ (⟨#[46]⟩ : ByteArray) ++ s2)) rfl rfl (by kernel_rfl) (by kernel_rfl) (by kernel_rfl) (fun _ _ _ h => h) (Or.inl ⟨by rfl, fun w hw => by go_simp <;> omega⟩) h0 ?_
  simp only [Act.put, List.setIfInBounds_toArray, List.set_cons_zero, List.set_cons_succ]
  refine hd_take 16 (some 27) (.string (s0 ++ (⟨#[46]⟩ : ByteArray) ++ s1 ++ (⟨#[46]⟩ : ByteArray) ++ s2 ++ (⟨#[46]⟩ : ByteArray))) rfl rfl (by kernel_rfl) (by kernel_rfl) (by kernel_rfl) (fun _ _ _ h => h) (Or.inl ⟨by rfl, fun w hw => by go_simp <;> omega⟩) h0 ?_
  simp only [Act.put, List.setIfInBounds_toArray, List.set_cons_zero, List.set_cons_succ]
  refine wpAnyH_ready (rs := [20]) (by kernel_rfl) (by simp) (AllReadyH.cons rfl (fun K hK => ?_) AllReadyH.nil)
  go_simp
  go_wp2_with (go_at_call 126; refine (T3.out _).mono ?_; rintro e w4 ⟨rfl, rfl⟩)
  refine hK.out _ _ HA.out (fun h0 => ?_)
  clear hK K
  refine hd_take 21 (some 32) (.string (s0 ++ (⟨#[46]⟩ : ByteArray) ++ s1 ++ (⟨#[46]⟩ : ByteArray) ++ s2 ++ (⟨#[46]⟩ : ByteArray) ++ s3)) rfl rfl (by kernel_rfl) (by kernel_rfl) (by kernel_rfl) (fun _ _ _ h => h) (Or.inl ⟨by rfl, fun w hw => by go_simp <;> omega⟩) h0 ?_
  simp only [Act.put, List.setIfInBounds_toArray, List.set_cons_zero, List.set_cons_succ]
  refine hd_take 22 (some 2) (.string (s0 ++ (⟨#[46]⟩ : ByteArray) ++ s1 ++ (⟨#[46]⟩ : ByteArray) ++ s2 ++ (⟨#[46]⟩ : ByteArray) ++ s3)) rfl rfl (by kernel_rfl) (by kernel_rfl) (by kernel_rfl) (fun _ _ _ h => h) (Or.inl ⟨by rfl, fun w hw => by go_simp <;> omega⟩) h0 ?_
  simp only [Act.put, List.setIfInBounds_toArray, List.set_cons_zero, List.set_cons_succ]
  refine wpAnyH_done (by kernel_rfl) ?_ _
  go_wp2_with fail
  go_ret
  refine ⟨by rw [HTX.out]; rfl, ?_⟩
  rw [hG]
  exact HL.out.trans ((Below.refl _ _).drew)
end Go.Proofs.YtgbhnjkigjecmaaGreatDoor.Ad

/-
  Contract of hagioscoperef03.Print.
-/
namespace Go.Proofs.YtgbhnjkigjecmaaGreatDoor.Ad
open Go.RowKit Go.Proofs.YtgbhnjkigjecmaaGreatDoor.Wd Go.Proofs.YtgbhnjkigjecmaaGreatDoor.Asc

theorem rprint_any (a : List UInt8) (ha : a.length = 16) (w : World) :
    Calls Tryz.prog 84 #[.agg (cA a)] w fun e w' => e = .returned (.string (str (ctext a))) ∧ Below w.heap.size w w' := by
  unfold ctext
  cases hf : fourS a with
  | true => rw [if_pos rfl]; exact rprint_four a ha hf w
  | false =>
    rw [if_neg (by simp)]
    by_cases h2 : (bR (pairs a) 8).2 < 2
    · exact rprint_lo a ha hf h2 w
    · exact rprint_hi a ha hf h2 w
end Go.Proofs.YtgbhnjkigjecmaaGreatDoor.Ad

/-
  Contracts of hagioscoperef13's split and Parse over this seat's translation: they answer what hostS and parseS say.
-/
namespace Go.Proofs.YtgbhnjkigjecmaaGreatDoor.Au
open Go.RowKit Go.Proofs.YtgbhnjkigjecmaaGreatDoor.Wd Go.Proofs.YtgbhnjkigjecmaaGreatDoor.Asc Go.Proofs.YtgbhnjkigjecmaaGreatDoor.Tx Go.Proofs.YtgbhnjkigjecmaaGreatDoor.St

set_option linter.unusedSimpArgs false in
set_option maxRecDepth 100000 in
set_option maxHeartbeats 4000000 in
theorem rsplit_any (s : ByteArray) (w : World) (hs : s.size ≤ 2147483640) :
    Calls Tryz.prog 120 #[.string s] w fun e w' => e = .returned (hoT (hostS (bs s))) ∧ Below w.heap.size w w' := by
  have hm : s.size ≤ maxLen := by unfold maxLen; omega
  have HV := Lib.hid (fun w => rvisible_any s w hm)
  have HA : Hid (∀ w, Calls Tryz.prog 151 #[.string s, .int .u8 64] w fun e w' => e = .returned (.bool (decide ((64 : UInt8) ∈ bs s))) ∧ w = w') := Lib.hid (fun w => rhas_any s 64 w hm)
  have hem := empty_is s
  by_cases h0 : s.size = 0
  · have e0 : bs s = [] := by rw [empty_of s h0]; rfl
    rw [decide_eq_true e0] at hem
    have HH := Lib.hid (show hostS (bs s) = (([], []), 8) by rw [e0]; rfl)
    generalize decide ((64 : UInt8) ∈ bs s) = b2 at *
    generalize allS visI (bs s) = b1 at *
    rw [HH.out]
    clear h0 e0 HH hm
    go_enter Tryz.func120, Tryz.ntmps120
    go_wp2_with fail
    refine (HV.out _).mono ?_
    rintro e w1 ⟨rfl, rfl⟩
    go_wp2_with fail
    refine (HA.out _).mono ?_
    rintro e w1 ⟨rfl, rfl⟩
    go_wp2_with fail
    go_ret3
    exact ⟨rfl, Below.refl _ _⟩
  · have hp : 0 < s.size := by omega
    have e0 : bs s ≠ [] := fun h => h0 (by rw [← bs_length, h]; rfl)
    rw [decide_eq_false e0] at hem
    have d58 := head_dec (s := s) (h := hp) 58
    have d91 := head_dec (s := s) (h := hp) 91
    rw [show (((58 : UInt8).toNat : Nat) : Int) = 58 from rfl] at d58
    rw [show (((91 : UInt8).toNat : Nat) : Int) = 91 from rfl] at d91
    by_cases c1 : (bs s).head? = some 58
    · have HH := Lib.hid (host_colon c1)
      rw [decide_eq_true c1] at d58
      generalize decide ((64 : UInt8) ∈ bs s) = b2 at *
      generalize allS visI (bs s) = b1 at *
      rw [HH.out]
      clear h0 e0 HH hm c1 d91
      go_enter Tryz.func120, Tryz.ntmps120
      go_wp2_with fail
      refine (HV.out _).mono ?_
      rintro e w1 ⟨rfl, rfl⟩
      go_wp2_with fail
      refine (HA.out _).mono ?_
      rintro e w1 ⟨rfl, rfl⟩
      go_wp2_with fail
      go_ret3
      exact ⟨rfl, Below.refl _ _⟩
    · rw [decide_eq_false c1] at d58
      by_cases c2 : allS visI (bs s) = false ∨ (64 : UInt8) ∈ bs s
      · have HH := Lib.hid (host_form e0 c1 c2)
        have hb : (allS visI (bs s) = false) ∨ decide ((64 : UInt8) ∈ bs s) = true := c2.imp id (fun h => decide_eq_true h)
        generalize decide ((64 : UInt8) ∈ bs s) = b2 at *
        generalize allS visI (bs s) = b1 at *
        rw [HH.out]
        clear h0 e0 HH hm c1 c2 d91
        cases b1 with
        | false =>
          clear hb
          go_enter Tryz.func120, Tryz.ntmps120
          go_wp2_with fail
          refine (HV.out _).mono ?_
          rintro e w1 ⟨rfl, rfl⟩
          go_wp2_with fail
          refine (HA.out _).mono ?_
          rintro e w1 ⟨rfl, rfl⟩
          go_wp2_with fail
          go_ret3
          exact ⟨rfl, Below.refl _ _⟩
        | true =>
          have hb2 : b2 = true := hb.resolve_left (by simp)
          subst hb2
          clear hb
          go_enter Tryz.func120, Tryz.ntmps120
          go_wp2_with fail
          refine (HV.out _).mono ?_
          rintro e w1 ⟨rfl, rfl⟩
          go_wp2_with fail
          refine (HA.out _).mono ?_
          rintro e w1 ⟨rfl, rfl⟩
          go_wp2_with fail
          go_ret3
          exact ⟨rfl, Below.refl _ _⟩
      · have hv : allS visI (bs s) = true := by
          cases h : allS visI (bs s) with
          | true => rfl
          | false => exact absurd (.inl h) c2
        have ha : (64 : UInt8) ∉ bs s := fun h => c2 (.inr h)
        have HH := Lib.hid (host_sp e0 c1 hv ha)
        rw [hv] at HV
        rw [decide_eq_false ha] at HA
        rw [HH.out]
        clear h0 e0 HH c1 c2 hv ha
        by_cases c3 : (bs s).head? = some 91
        · have HH := Lib.hid (sp_brack c3)
          rw [decide_eq_true c3] at d91
          rw [HH.out]
          have n91 : (((s[0]'hp).toNat : Int) != 91) = false := by rw [bne, d91]; rfl
          obtain ⟨F, hF⟩ : ∃ F, s.extract 1 s.size = F := ⟨_, rfl⟩
          have hFb : bs F = (bs s).drop 1 := by rw [← hF, bs_extract, List.take_of_length_le (by rw [List.length_drop, bs_length]; omega)]
          have hFz : F.size ≤ 2147483640 := by rw [← bs_length, hFb, List.length_drop, bs_length]; omega
          have HF := Lib.hid hF
          have HU : Hid (∀ w, Calls Tryz.prog 152 #[.string F, .int .u8 93] w fun e w' => e = .returned (untT F 93) ∧ Below w.heap.size w w') := Lib.hid (fun w => until_any F 93 w (by unfold maxLen; omega))
          rw [← hFb]
          have hsp : (93 ∉ bs F ∧ (bs F).takeWhile (· != 93) = bs F ∧ (bs F).dropWhile (· != 93) = []) ∨ ∃ r, (bs F) = (bs F).takeWhile (· != 93) ++ 93 :: r ∧ 93 ∉ (bs F).takeWhile (· != 93) ∧ (bs F).dropWhile (· != 93) = 93 :: r := by
            rcases first_of (c := 93) (bs F) with h | ⟨a, r, hm, h⟩
            · exact .inl ⟨h, while_free h⟩
            · have h2 := while_at (b := r) h
              rw [← hm] at h2
              exact .inr ⟨r, by rw [h2.1]; exact hm, by rw [h2.1]; exact h, h2.2⟩
          unfold untT at HU
          have hil : ((bs F).takeWhile (· != 93)).length ≤ 2147483640 := by
            have h1 := (List.takeWhile_prefix (l := bs F) (fun x : UInt8 => x != 93)).length_le
            rw [bs_length] at h1
            omega
          have HSp : Hid ((∃ r, (bs F).dropWhile (· != 93) = 93 :: r ∧ bracketS (bs F) = (match Ad.parseS ((bs F).takeWhile (· != 93)) with | none => (([], []), 3) | some a => if (58 : UInt8) ∈ (bs F).takeWhile (· != 93) then ((Ad.ctext a, r), 0) else (([], []), 3))) ∨ ((bs F).dropWhile (· != 93) = [] ∧ bracketS (bs F) = (([], []), 3))) := Lib.hid (by
            rcases hsp with ⟨h1, _, h3⟩ | ⟨r, h1, h2, h3⟩
            · exact .inr ⟨h3, brack_free h1⟩
            · refine .inl ⟨r, h3, ?_⟩
              have hb : bracketS (bs F) = bracketS ((bs F).takeWhile (· != 93) ++ 93 :: r) := congrArg bracketS h1
              rw [hb]
              cases hx : Ad.parseS ((bs F).takeWhile (· != 93)) with
              | none => exact brack_no h2 hx
              | some a =>
                dsimp only
                split
                · rename_i h5; exact brack_yes h2 h5 hx
                · rename_i h5; exact brack_dot h2 h5)
          generalize bracketS (bs F) = Z at *
          generalize (bs F).takeWhile (· != 93) = i at *
          generalize (bs F).dropWhile (· != 93) = r0 at *
          clear hsp hFb hF d91 c3 HH
          have HPa := Lib.hid (fun w => Ad.rparse_any (str i) w (by rw [str_size]; exact hil))
          have HC : Hid (∀ w, Calls Tryz.prog 151 #[.string (str i), .int .u8 58] w fun e w' => e = .returned (.bool (decide ((58 : UInt8) ∈ i))) ∧ w = w') := Lib.hid (fun w => rhas_any (str i) 58 w (by unfold maxLen; rw [str_size]; omega))
          unfold Ad.RParPost at HPa
          rw [bs_str] at HPa
          have ei := Rl.lit_beq r0 []
          obtain ⟨V, hV⟩ : ∃ V, (Ad.parseS i).getD (List.replicate 16 0) = V := ⟨_, rfl⟩
          have hV16 : V.length = 16 := by
            rw [← hV]
            cases h : Ad.parseS i with
            | none => rfl
            | some a => exact Ad.parseS_len h
          have HVV : Hid (∀ a, Ad.parseS i = some a → a = V) := Lib.hid (fun a h => by rw [← hV, h]; rfl)
          rw [hV] at HPa
          have HPr := Lib.hid (fun w => Ad.rprint_any V hV16 w)
          obtain ⟨b, hb⟩ : ∃ b, (Ad.parseS i).isSome = b := ⟨_, rfl⟩
          rw [hb] at HPa
          obtain ⟨c, hc⟩ : ∃ c, decide ((58 : UInt8) ∈ i) = c := ⟨_, rfl⟩
          rw [hc] at HC
          obtain ⟨z, hz⟩ : ∃ z, decide (r0 = []) = z := ⟨_, rfl⟩
          rw [hz] at ei
          have HFin : Hid ((z = false ∧ b = true ∧ c = true ∧ Z = ((Ad.ctext V, r0.drop 1), 0) ∧ r0 ≠ []) ∨ ((z = true ∨ b = false ∨ c = false) ∧ Z = (([], []), 3))) := Lib.hid (by
            rcases HSp.out with ⟨r, h1, h2⟩ | ⟨h1, h2⟩
            · cases hx : Ad.parseS i with
              | none =>
                rw [hx] at h2 hb
                exact .inr ⟨.inr (.inl hb.symm), h2⟩
              | some a =>
                rw [hx] at h2 hb
                dsimp only at h2
                obtain rfl := HVV.out a hx
                by_cases h5 : (58 : UInt8) ∈ i
                · rw [if_pos h5] at h2
                  rw [decide_eq_true h5] at hc
                  have hr : r0 ≠ [] := by rw [h1]; simp
                  refine .inl ⟨by rw [← hz, decide_eq_false hr], hb.symm, hc.symm, ?_, hr⟩
                  rw [h2, h1]; rfl
                · rw [if_neg h5] at h2
                  rw [decide_eq_false h5] at hc
                  exact .inr ⟨.inr (.inr hc.symm), h2⟩
            · exact .inr ⟨.inl (by rw [← hz, decide_eq_true h1]), h2⟩)
          obtain ⟨R, hR⟩ : ∃ R, str r0 = R := ⟨_, rfl⟩
          have hRb : bs R = r0 := by rw [← hR, bs_str]
          obtain ⟨I, hI⟩ : ∃ I, str i = I := ⟨_, rfl⟩
          obtain ⟨T, hT⟩ : ∃ T, str (Ad.ctext V) = T := ⟨_, rfl⟩
          rw [hR] at HU ei
          rw [hI] at HU HPa HC
          rw [show Ad.str (Ad.ctext V) = T from hT] at HPr
          have HTT := Lib.hid hT
          have HRb := Lib.hid hRb
          clear HSp HVV hV hb hc hz hR hI hT hRb hil
          have h1s : (1 : Int) ≤ (s.size : Int) := by omega
          go_enter Tryz.func120, Tryz.ntmps120
          go_wp2_with fail
          refine (HV.out _).mono ?_
          rintro e w1 ⟨rfl, rfl⟩
          go_wp2_with fail
          refine (HA.out _).mono ?_
          rintro e w1 ⟨rfl, rfl⟩
          go_wp2_with fail
          rw [HF.out]
          refine (HU.out _).mono ?_
          rintro e w0 ⟨rfl, hb0⟩
          go_wp2_with fail
          refine (HPa.out _).mono ?_
          rintro e w1 ⟨rfl, hb1⟩
          have HB1 := Lib.hid (hb0.trans (hb1.mono hb0.size))
          clear hb0 hb1 HPa HU HV HA HF
          go_upto_region 12 with (refine go_st 72 (Blk.new _ _ _) Ad.info16 rfl (by rw [Ad.cA_size, hV16]) (Ad.cA_one _) rfl rfl rfl rfl ?_)
          obtain ⟨hk, hbl⟩ := adr_new w1 V
          have HB2 := Lib.hid (HB1.out.trans (hbl.mono HB1.out.size))
          have HK := Lib.hid hk
          have HG := Lib.hid HB1.out.size
          clear hk hbl HB1
          generalize (w1.alloc (.cells #[Value.int .u8 0, Value.int .u8 0, Value.int .u8 0, Value.int .u8 0, Value.int .u8 0, Value.int .u8 0, Value.int .u8 0, Value.int .u8 0, Value.int .u8 0, Value.int .u8 0, Value.int .u8 0, Value.int .u8 0, Value.int .u8 0, Value.int .u8 0, Value.int .u8 0, Value.int .u8 0] 72)).setRow w1.heap.size (Ad.cA V) = w2 at *
          generalize w1.heap.size = g at *
          go_wp2_with fail
          refine (HC.out _).mono ?_
          rintro e w3 ⟨rfl, rfl⟩
          clear HC
          rcases HFin.out with ⟨rfl, rfl, rfl, hZ, hr0⟩ | ⟨hbad, hZ⟩
          · have HZ := Lib.hid hZ
            have hRz : (1 : Int) ≤ (R.size : Int) := by
              have : R.size = r0.length := by rw [← bs_length, HRb.out]
              have : r0.length ≠ 0 := fun h => hr0 (List.eq_nil_of_length_eq_zero h)
              omega
            have HR1 : Hid (R.extract 1 R.size = str (r0.drop 1)) := Lib.hid (by
              apply bs_inj
              rw [bs_extract, bs_str (r0.drop 1), HRb.out, List.take_of_length_le (by rw [List.length_drop, ← bs_length, HRb.out]; omega)])
            clear hZ hr0 HFin HRb
            go_upto_region 15 with fail
            have HS0 := Lib.hid (range_adr HK.out)
            refine wp_region_held_drew (S := fun w' => w'.rangeAt g 0 (cellsOf V)) (by kernel_rfl) HS0.out (fun h0 => ?_)
            refine hd_take 0 (some 63) (.agg (Ad.cA V)) rfl rfl (by kernel_rfl) (by kernel_rfl) (by kernel_rfl) (fun _ _ _ h => h) (yieldsIf_load_mid (by rfl) _ _ rfl g 0 rfl (cellsOf V) _ (fun _ h => h) Ad.und16 rfl (by rw [cellsOf_length, hV16]; exact Ad.info16)) h0 ?_
            simp only [Act.put, List.setIfInBounds_toArray, List.set_cons_zero, List.set_cons_succ]
            refine hd_take 2 (some 65) (.string R) rfl rfl (by kernel_rfl) (by kernel_rfl) (by kernel_rfl) (fun _ _ _ h => h) (Or.inl ⟨by rfl, fun w hw => by go_simp⟩) h0 ?_
            simp only [Act.put, List.setIfInBounds_toArray, List.set_cons_zero, List.set_cons_succ]
            refine hd_take 3 (some 66) (.string (R.extract 1 R.size)) rfl rfl (by kernel_rfl) (by kernel_rfl) (by kernel_rfl) (fun _ _ _ h => h) (Or.inl ⟨by rfl, fun w hw => by go_simp⟩) h0 ?_
            simp only [Act.put, List.setIfInBounds_toArray, List.set_cons_zero, List.set_cons_succ]
            refine wpAnyH_ready (rs := [1]) (by kernel_rfl) (by simp) (AllReadyH.cons rfl (fun K hK => ?_) AllReadyH.nil)
            go_simp
            go_wp2_with (go_at_call 84; refine (HPr.out _).mono ?_; rintro e w4 ⟨rfl, hb4⟩; have HB4 := Lib.hid hb4; have b4 : Blk w4 g _ _ := Blk.below (w := w2.drew) HK.out hb4 HK.out.lt; have HC4 := Lib.hid (range_adr b4); clear b4 hb4)
            refine hK.out _ _ HC4.out (fun h4 => ?_)
            clear hK K
            refine hd_take 4 (some 2) (.string T) rfl rfl (by kernel_rfl) (by kernel_rfl) (by kernel_rfl) (fun _ _ _ h => h) (Or.inl ⟨by rfl, fun w hw => by go_simp⟩) h4 ?_
            simp only [Act.put, List.setIfInBounds_toArray, List.set_cons_zero, List.set_cons_succ]
            refine hd_take 5 (some 3) (.string (R.extract 1 R.size)) rfl rfl (by kernel_rfl) (by kernel_rfl) (by kernel_rfl) (fun _ _ _ h => h) (Or.inl ⟨by rfl, fun w hw => by go_simp⟩) h4 ?_
            simp only [Act.put, List.setIfInBounds_toArray, List.set_cons_zero, List.set_cons_succ]
            refine hd_take 6 (some 4) (.int .i64 0) rfl rfl (by kernel_rfl) (by kernel_rfl) (by kernel_rfl) (fun _ _ _ h => h) (Or.inl ⟨by rfl, fun w hw => by go_simp⟩) h4 ?_
            simp only [Act.put, List.setIfInBounds_toArray, List.set_cons_zero, List.set_cons_succ]
            refine wpAnyH_done (by kernel_rfl) ?_ _
            go_wp2_with fail
            go_ret3
            rw [HZ.out]
            refine ⟨?_, (HB2.out.drew.trans (HB4.out.mono (Nat.le_of_lt (Nat.lt_of_le_of_lt HG.out HK.out.lt))))⟩
            unfold hoT
            rw [HTT.out, ← HR1.out]
            rfl
          · have HZ := Lib.hid hZ
            clear hZ HFin
            have key : ∀ (x y u : Bool), (x = true ∨ y = false ∨ u = false) → (x = true) ∨ (x = false ∧ y = false) ∨ (x = false ∧ y = true ∧ u = false) := by decide
            rcases key z b c hbad with rfl | ⟨rfl, rfl⟩ | ⟨rfl, rfl, rfl⟩
            all_goals
              clear hbad key
              go_wp2_with fail
              go_ret3
              rw [HZ.out]
              exact ⟨rfl, HB2.out⟩
        · have HH := Lib.hid (sp_plain c3)
          rw [decide_eq_false c3] at d91
          rw [HH.out]
          have n91 : (((s[0]'hp).toNat : Int) != 91) = true := by rw [bne, d91]; rfl
          have HU : Hid (∀ w, Calls Tryz.prog 152 #[.string s, .int .u8 58] w fun e w' => e = .returned (untT s 58) ∧ Below w.heap.size w w') := Lib.hid (fun w => until_any s 58 w hm)
          unfold untT at HU
          generalize (bs s).takeWhile (· != 58) = A at *
          generalize (bs s).dropWhile (· != 58) = D at *
          clear hm c3 d91 HH
          go_enter Tryz.func120, Tryz.ntmps120
          go_wp2_with fail
          refine (HV.out _).mono ?_
          rintro e w1 ⟨rfl, rfl⟩
          go_wp2_with fail
          refine (HA.out _).mono ?_
          rintro e w1 ⟨rfl, rfl⟩
          go_wp2_with fail
          refine (HU.out _).mono ?_
          rintro e w1 ⟨rfl, hb1⟩
          go_wp2_with fail
          go_ret3
          exact ⟨rfl, hb1⟩

set_option linter.unusedSimpArgs false in
set_option maxRecDepth 100000 in
set_option maxHeartbeats 4000000 in
theorem rparse_any (s : ByteArray) (w : World) (hs : s.size ≤ 2147483640) : Calls Tryz.prog 82 #[.string s] w (ResP (parseS (bs s)) w) := by
  have HS := Lib.hid (rsplit_any s w hs)
  obtain ⟨Q, hQ⟩ : ∃ Q, parseS (bs s) = Q := ⟨_, rfl⟩
  rw [hQ]
  have hrl := rest_len (bs s)
  rw [bs_length] at hrl
  have hno := host_none (l := bs s)
  obtain ⟨x, hx⟩ : ∃ x, hostS (bs s) = x := ⟨_, rfl⟩
  obtain ⟨⟨h, r⟩, e⟩ := x
  rw [hx] at HS hrl hno
  unfold hoT at HS
  simp only at HS hrl hno
  obtain ⟨H, hH⟩ : ∃ H, str h = H := ⟨_, rfl⟩
  obtain ⟨R, hR⟩ : ∃ R, str r = R := ⟨_, rfl⟩
  have hRb : bs R = r := by rw [← hR, bs_str]
  have hRz : R.size = r.length := by rw [← hR, str_size]
  have ei := empty_is R
  rw [hRb] at ei
  rw [hH, hR] at HS
  by_cases c1 : e = 0
  · subst c1
    clear hno
    by_cases c2 : r = []
    · have HQ : Hid (Q = (h, 0, 0)) := Lib.hid (by subst c2; rw [← hQ]; exact parse_parts hx port_nil)
      rw [decide_eq_true c2] at ei
      clear c2 hQ hx hrl hR hRb hRz
      go_enter Tryz.func82, Tryz.ntmps82
      go_wp2_with fail
      refine HS.out.mono ?_
      rintro e w1 ⟨rfl, hb⟩
      go_wp2_with fail
      go_ret3
      refine ⟨?_, hb⟩
      rw [HQ.out, ← hH]
      rfl
    · rw [decide_eq_false c2] at ei
      have hp : 0 < R.size := by
        have : r.length ≠ 0 := fun h => c2 (List.eq_nil_of_length_eq_zero h)
        omega
      have dc := head_dec (s := R) (h := hp) 58
      rw [show (((58 : UInt8).toNat : Nat) : Int) = 58 from rfl] at dc
      by_cases c3 : (bs R).head? = some 58
      · rw [decide_eq_true c3] at dc
        have n58 : (((R[0]'hp).toNat : Int) != 58) = false := by rw [bne, dc]; rfl
        obtain ⟨F, hF⟩ : ∃ F, R.extract 1 R.size = F := ⟨_, rfl⟩
        have hFb : bs F = r.drop 1 := by rw [← hF, bs_extract, hRb, List.take_of_length_le (by rw [List.length_drop]; omega)]
        have hFz : F.size ≤ maxLen := by unfold maxLen; rw [← bs_length, hFb, List.length_drop]; omega
        have hr : r = 58 :: bs F := by
          rw [hRb] at c3
          cases r with
          | nil => cases c3
          | cons c d => simp at c3; rw [hFb, c3]; rfl
        have HF := Lib.hid hF
        have HN := Lib.hid (fun w => rnumber_any F 65535 w hFz)
        have h1s : (1 : Int) ≤ (R.size : Int) := by omega
        cases hn : numS (bs F) 65535 with
        | none =>
          have HQ : Hid (Q = ([], 0, 10)) := Lib.hid (by rw [← hQ]; exact parse_port hx (by rw [hr]; exact port_none_num hn) (by decide))
          rw [hn] at HN
          unfold dTup at HN
          clear hQ hx hrl hR hRb hRz hF hFb hFz hr hn c3 c2 dc
          go_enter Tryz.func82, Tryz.ntmps82
          go_wp2_with fail
          refine HS.out.mono ?_
          rintro e w1 ⟨rfl, hb⟩
          go_wp2_with fail
          rw [HF.out]
          refine (HN.out _).mono ?_
          rintro e w2 ⟨rfl, rfl⟩
          go_wp2_with fail
          go_ret3
          refine ⟨?_, hb⟩
          rw [HQ.out]
          rfl
        | some n =>
          rw [hn] at HN
          unfold dTup at HN
          by_cases c4 : n = 0
          · have HQ : Hid (Q = ([], 0, 10)) := Lib.hid (by rw [← hQ]; exact parse_port hx (by rw [hr]; exact port_zero (by rw [hn, c4])) (by decide))
            subst c4
            clear hQ hx hrl hR hRb hRz hF hFb hFz hr hn c3 c2 dc
            go_enter Tryz.func82, Tryz.ntmps82
            go_wp2_with fail
            refine HS.out.mono ?_
            rintro e w1 ⟨rfl, hb⟩
            go_wp2_with fail
            rw [HF.out]
            refine (HN.out _).mono ?_
            rintro e w2 ⟨rfl, rfl⟩
            go_wp2_with fail
            go_ret3
            refine ⟨?_, hb⟩
            rw [HQ.out]
            rfl
          · have HQ : Hid (Q = (h, n, 0)) := Lib.hid (by rw [← hQ]; exact parse_parts hx (by rw [hr]; exact port_some hn c4))
            have n0 : (n == 0) = false := by rw [beq_eq_false_iff_ne]; exact c4
            clear hQ hx hrl hR hRb hRz hF hFb hFz hr hn c3 c2 dc c4
            go_enter Tryz.func82, Tryz.ntmps82
            go_wp2_with fail
            refine HS.out.mono ?_
            rintro e w1 ⟨rfl, hb⟩
            go_wp2_with fail
            rw [HF.out]
            refine (HN.out _).mono ?_
            rintro e w2 ⟨rfl, rfl⟩
            go_wp2_with fail
            go_ret3
            refine ⟨?_, hb⟩
            rw [HQ.out, ← hH]
            rfl
      · rw [decide_eq_false c3] at dc
        have n58 : (((R[0]'hp).toNat : Int) != 58) = true := by rw [bne, dc]; rfl
        have HQ : Hid (Q = ([], 0, 3)) := Lib.hid (by
          rw [hRb] at c3
          rw [← hQ]
          refine parse_port (p := 0) hx ?_ (by decide)
          cases r with
          | nil => exact absurd rfl c2
          | cons c d => exact port_form (by simpa using c3))
        clear hQ hx hrl hR hRb hRz c3 c2 dc
        go_enter Tryz.func82, Tryz.ntmps82
        go_wp2_with fail
        refine HS.out.mono ?_
        rintro e w1 ⟨rfl, hb⟩
        go_wp2_with fail
        go_ret3
        refine ⟨?_, hb⟩
        rw [HQ.out]
        rfl
  · have hn := hno c1
    injection hn with e1 e2
    subst e1 e2
    have HQ : Hid (Q = ([], 0, e)) := Lib.hid (by rw [← hQ]; exact parse_host hx c1)
    have ne : (e != 0) = true := by simpa using c1
    clear hQ hx hrl hRb hRz hno ei
    go_enter Tryz.func82, Tryz.ntmps82
    go_wp2_with fail
    refine HS.out.mono ?_
    rintro e w1 ⟨rfl, hb⟩
    go_wp2_with fail
    go_ret3
    refine ⟨?_, hb⟩
    rw [HQ.out]
    rfl
end Go.Proofs.YtgbhnjkigjecmaaGreatDoor.Au
