/-
  Contract of hagioscoperef03.Print at an address of four bytes.
-/
import Derived.Test.YtgpgkfbbpiialaaGreatDoorRfNum
import Derived.Test.YtgpgkfbbpiialaaGreatDoorMRfA
import Derived.Test.YtgpgkfbbpiialaaGreatDoorMAdD
namespace Go.Proofs.YtgpgkfbbpiialaaGreatDoor.Ad
open Go.RowKit Go.Proofs.YtgpgkfbbpiialaaGreatDoor.Wd Go.Proofs.YtgpgkfbbpiialaaGreatDoor.Asc

theorem text4_form (a : List UInt8) (ha : a.length = 16) : ∃ b0 b1 b2 b3 : UInt8, a[12]? = some b0 ∧ a[13]? = some b1 ∧ a[14]? = some b2 ∧ a[15]? = some b3 ∧
    txtS b0.toNat ++ (⟨#[46]⟩ : ByteArray) ++ txtS b1.toNat ++ (⟨#[46]⟩ : ByteArray) ++ txtS b2.toNat ++ (⟨#[46]⟩ : ByteArray) ++ txtS b3.toNat = str (text4 a) := by
  match a, ha with
  | [a0, a1, a2, a3, a4, a5, a6, a7, a8, a9, a10, a11, a12, a13, a14, a15], _ =>
    refine ⟨a12, a13, a14, a15, rfl, rfl, rfl, rfl, ?_⟩
    have ht : ∀ c : UInt8, txtS c.toNat = str (Lib.itoa (c.toNat : Int)) := fun c => by rw [Lib.itoa_nonneg, ← txt_dec]; rfl
    rw [ht, ht, ht, ht, show (⟨#[46]⟩ : ByteArray) = str [46] from rfl, str_cat, str_cat, str_cat, str_cat, str_cat, str_cat]
    congr 1
    show _ = rowT 46 Lib.itoa [(a12.toNat : Int), (a13.toNat : Int), (a14.toNat : Int), (a15.toNat : Int)] 4
    simp [rowT]

set_option linter.unusedSimpArgs false in
set_option maxRecDepth 100000 in
set_option maxHeartbeats 4000000 in
theorem rprint_four (a : List UInt8) (ha : a.length = 16) (hf : fourS a = true) (w : World) :
    Calls Tryz.prog 47 #[.agg (cA a)] w fun e w' => e = .returned (.string (str (text4 a))) ∧ Below w.heap.size w w' := by
  have HF := Lib.hid hf
  obtain ⟨b0, b1, b2, b3, c0, c1, c2, c3, htx⟩ := text4_form a ha
  have HTX := Lib.hid htx
  clear hf htx
  go_enter Tryz.func47, Tryz.ntmps47
  have k0 := Blk.new w 63 (cA a)
  go_wp2_with (refine go_ld 63 k0 und16 rfl info16 (by rw [cA_size, ha]) rfl rfl rfl ?_)
  refine (rfour_any a ha _).mono ?_
  rintro e w1 ⟨rfl, hb1⟩
  rw [HF.out]
  have k1 := k0.below hb1 k0.lt
  have HL := Lib.hid (((Below.refl w.heap.size w).alloc (Nat.le_refl _) (.cells (cA a) 63)).trans (hb1.mono (by simp)))
  have d0 : w1.cell? ⟨w.heap.size, 12, none⟩ = some (.int .u8 (b0.toNat : Int)) := by rw [cell_a k1 12, c0]; rfl
  have d1 : w1.cell? ⟨w.heap.size, 13, none⟩ = some (.int .u8 (b1.toNat : Int)) := by rw [cell_a k1 13, c1]; rfl
  have d2 : w1.cell? ⟨w.heap.size, 14, none⟩ = some (.int .u8 (b2.toNat : Int)) := by rw [cell_a k1 14, c2]; rfl
  have d3 : w1.cell? ⟨w.heap.size, 15, none⟩ = some (.int .u8 (b3.toNat : Int)) := by rw [cell_a k1 15, c3]; rfl
  have e0 := b0.toNat_lt
  have e1 := b1.toNat_lt
  have e2 := b2.toNat_lt
  have e3 := b3.toNat_lt
  have z0 := txtS_size b0.toNat
  have z1 := txtS_size b1.toNat
  have z2 := txtS_size b2.toNat
  have z3 := txtS_size b3.toNat
  have T0 := Lib.hid (fun w => text_any b0.toNat _ w rfl (by omega))
  have T1 := Lib.hid (fun w => text_any b1.toNat _ w rfl (by omega))
  have T2 := Lib.hid (fun w => text_any b2.toNat _ w rfl (by omega))
  have T3 := Lib.hid (fun w => text_any b3.toNat _ w rfl (by omega))
  generalize txtS b0.toNat = s0 at *
  generalize txtS b1.toNat = s1 at *
  generalize txtS b2.toNat = s2 at *
  generalize txtS b3.toNat = s3 at *
  generalize b0.toNat = n0 at *
  generalize b1.toNat = n1 at *
  generalize b2.toNat = n2 at *
  generalize b3.toNat = n3 at *
  have hd : (⟨#[46]⟩ : ByteArray).size = 1 := rfl
  have y1 : (s0 ++ (⟨#[46]⟩ : ByteArray)).size ≤ 300 := by rw [ByteArray.size_append]; omega
  have y2 : (s0 ++ (⟨#[46]⟩ : ByteArray) ++ s1).size ≤ 600 := by rw [ByteArray.size_append]; omega
  have y3 : (s0 ++ (⟨#[46]⟩ : ByteArray) ++ s1 ++ (⟨#[46]⟩ : ByteArray)).size ≤ 700 := by rw [ByteArray.size_append]; omega
  have y4 : (s0 ++ (⟨#[46]⟩ : ByteArray) ++ s1 ++ (⟨#[46]⟩ : ByteArray) ++ s2).size ≤ 1000 := by rw [ByteArray.size_append]; omega
  have y5 : (s0 ++ (⟨#[46]⟩ : ByteArray) ++ s1 ++ (⟨#[46]⟩ : ByteArray) ++ s2 ++ (⟨#[46]⟩ : ByteArray)).size ≤ 1100 := by rw [ByteArray.size_append]; omega
  have x0 : s0.size ≤ 300 := by omega
  have x1 : s1.size ≤ 300 := by omega
  have x2 : s2.size ≤ 300 := by omega
  have x3 : s3.size ≤ 300 := by omega
  have i0 : IntKind.i64.wrap (n0 : Int) = (n0 : Int) := IntWalk.i64_in _ (by omega)
  have i1 : IntKind.i64.wrap (n1 : Int) = (n1 : Int) := IntWalk.i64_in _ (by omega)
  have i2 : IntKind.i64.wrap (n2 : Int) = (n2 : Int) := IntWalk.i64_in _ (by omega)
  have i3 : IntKind.i64.wrap (n3 : Int) = (n3 : Int) := IntWalk.i64_in _ (by omega)
  clear z0 z1 z2 z3 k0 k1 hb1 c0 c1 c2 c3 hd
  generalize hG : w.heap.size = G at *
  have HA := Lib.hid (show w1.drew.cell? ⟨G, 12, none⟩ = some (.int .u8 (n0 : Int)) ∧ w1.drew.cell? ⟨G, 13, none⟩ = some (.int .u8 (n1 : Int)) ∧ w1.drew.cell? ⟨G, 14, none⟩ = some (.int .u8 (n2 : Int)) ∧ w1.drew.cell? ⟨G, 15, none⟩ = some (.int .u8 (n3 : Int)) from ⟨d0, d1, d2, d3⟩)
  clear d0 d1 d2 d3
  go_wp2_with fail
  refine wp_region_held_drew (S := fun w' => w'.cell? ⟨G, 12, none⟩ = some (.int .u8 (n0 : Int)) ∧ w'.cell? ⟨G, 13, none⟩ = some (.int .u8 (n1 : Int)) ∧ w'.cell? ⟨G, 14, none⟩ = some (.int .u8 (n2 : Int)) ∧ w'.cell? ⟨G, 15, none⟩ = some (.int .u8 (n3 : Int))) (by kernel_rfl) HA.out (fun h0 => ?_)
  refine hd_take 0 (some 11) (.pointer (some ⟨G, 12, none⟩)) rfl rfl (by kernel_rfl) (by kernel_rfl) (by kernel_rfl) (fun _ _ _ h => h) (Or.inl ⟨by rfl, fun w hw => by go_simp <;> omega⟩) h0 ?_
  simp only [Act.put, List.setIfInBounds_toArray, List.set_cons_zero, List.set_cons_succ]
  refine hd_take 1 (some 12) (.int .u8 (n0 : Int)) rfl rfl (by kernel_rfl) (by kernel_rfl) (by kernel_rfl) (fun _ _ _ h => h) (Or.inl ⟨by rfl, fun w hw => by obtain ⟨q0, q1, q2, q3⟩ := hw; go_simp⟩) h0 ?_
  simp only [Act.put, List.setIfInBounds_toArray, List.set_cons_zero, List.set_cons_succ]
  refine hd_take 2 (some 13) (.int .i64 (n0 : Int)) rfl rfl (by kernel_rfl) (by kernel_rfl) (by kernel_rfl) (fun _ _ _ h => h) (Or.inl ⟨by rfl, fun w hw => by go_simp <;> omega⟩) h0 ?_
  simp only [Act.put, List.setIfInBounds_toArray, List.set_cons_zero, List.set_cons_succ]
  refine hd_take 5 (some 16) (.pointer (some ⟨G, 13, none⟩)) rfl rfl (by kernel_rfl) (by kernel_rfl) (by kernel_rfl) (fun _ _ _ h => h) (Or.inl ⟨by rfl, fun w hw => by go_simp <;> omega⟩) h0 ?_
  simp only [Act.put, List.setIfInBounds_toArray, List.set_cons_zero, List.set_cons_succ]
  refine hd_take 6 (some 17) (.int .u8 (n1 : Int)) rfl rfl (by kernel_rfl) (by kernel_rfl) (by kernel_rfl) (fun _ _ _ h => h) (Or.inl ⟨by rfl, fun w hw => by obtain ⟨q0, q1, q2, q3⟩ := hw; go_simp⟩) h0 ?_
  simp only [Act.put, List.setIfInBounds_toArray, List.set_cons_zero, List.set_cons_succ]
  refine hd_take 7 (some 18) (.int .i64 (n1 : Int)) rfl rfl (by kernel_rfl) (by kernel_rfl) (by kernel_rfl) (fun _ _ _ h => h) (Or.inl ⟨by rfl, fun w hw => by go_simp <;> omega⟩) h0 ?_
  simp only [Act.put, List.setIfInBounds_toArray, List.set_cons_zero, List.set_cons_succ]
  refine hd_take 11 (some 22) (.pointer (some ⟨G, 14, none⟩)) rfl rfl (by kernel_rfl) (by kernel_rfl) (by kernel_rfl) (fun _ _ _ h => h) (Or.inl ⟨by rfl, fun w hw => by go_simp <;> omega⟩) h0 ?_
  simp only [Act.put, List.setIfInBounds_toArray, List.set_cons_zero, List.set_cons_succ]
  refine hd_take 12 (some 23) (.int .u8 (n2 : Int)) rfl rfl (by kernel_rfl) (by kernel_rfl) (by kernel_rfl) (fun _ _ _ h => h) (Or.inl ⟨by rfl, fun w hw => by obtain ⟨q0, q1, q2, q3⟩ := hw; go_simp⟩) h0 ?_
  simp only [Act.put, List.setIfInBounds_toArray, List.set_cons_zero, List.set_cons_succ]
  refine hd_take 13 (some 24) (.int .i64 (n2 : Int)) rfl rfl (by kernel_rfl) (by kernel_rfl) (by kernel_rfl) (fun _ _ _ h => h) (Or.inl ⟨by rfl, fun w hw => by go_simp <;> omega⟩) h0 ?_
  simp only [Act.put, List.setIfInBounds_toArray, List.set_cons_zero, List.set_cons_succ]
  refine hd_take 17 (some 28) (.pointer (some ⟨G, 15, none⟩)) rfl rfl (by kernel_rfl) (by kernel_rfl) (by kernel_rfl) (fun _ _ _ h => h) (Or.inl ⟨by rfl, fun w hw => by go_simp <;> omega⟩) h0 ?_
  simp only [Act.put, List.setIfInBounds_toArray, List.set_cons_zero, List.set_cons_succ]
  refine hd_take 18 (some 29) (.int .u8 (n3 : Int)) rfl rfl (by kernel_rfl) (by kernel_rfl) (by kernel_rfl) (fun _ _ _ h => h) (Or.inl ⟨by rfl, fun w hw => by obtain ⟨q0, q1, q2, q3⟩ := hw; go_simp⟩) h0 ?_
  simp only [Act.put, List.setIfInBounds_toArray, List.set_cons_zero, List.set_cons_succ]
  refine hd_take 19 (some 30) (.int .i64 (n3 : Int)) rfl rfl (by kernel_rfl) (by kernel_rfl) (by kernel_rfl) (fun _ _ _ h => h) (Or.inl ⟨by rfl, fun w hw => by go_simp <;> omega⟩) h0 ?_
  simp only [Act.put, List.setIfInBounds_toArray, List.set_cons_zero, List.set_cons_succ]
  refine wpAnyH_ready (rs := [3]) (by kernel_rfl) (by simp) (AllReadyH.cons rfl (fun K hK => ?_) AllReadyH.nil)
  go_simp
  go_wp2_with (go_at_call 14; refine (T0.out _).mono ?_; rintro e w4 ⟨rfl, rfl⟩)
  refine hK.out _ _ HA.out (fun h0 => ?_)
  clear hK K
  refine hd_take 4 (some 15) (.string (s0 ++ (⟨#[46]⟩ : ByteArray))) rfl rfl (by kernel_rfl) (by kernel_rfl) (by kernel_rfl) (fun _ _ _ h => h) (Or.inl ⟨by rfl, fun w hw => by go_simp <;> omega⟩) h0 ?_
  simp only [Act.put, List.setIfInBounds_toArray, List.set_cons_zero, List.set_cons_succ]
  refine wpAnyH_ready (rs := [8]) (by kernel_rfl) (by simp) (AllReadyH.cons rfl (fun K hK => ?_) AllReadyH.nil)
  go_simp
  go_wp2_with (go_at_call 14; refine (T1.out _).mono ?_; rintro e w4 ⟨rfl, rfl⟩)
  refine hK.out _ _ HA.out (fun h0 => ?_)
  clear hK K
  refine hd_take 9 (some 20) (.string (s0 ++ (⟨#[46]⟩ : ByteArray) ++ s1)) rfl rfl (by kernel_rfl) (by kernel_rfl) (by kernel_rfl) (fun _ _ _ h => h) (Or.inl ⟨by rfl, fun w hw => by go_simp <;> omega⟩) h0 ?_
  simp only [Act.put, List.setIfInBounds_toArray, List.set_cons_zero, List.set_cons_succ]
  refine hd_take 10 (some 21) (.string (s0 ++ (⟨#[46]⟩ : ByteArray) ++ s1 ++ (⟨#[46]⟩ : ByteArray))) rfl rfl (by kernel_rfl) (by kernel_rfl) (by kernel_rfl) (fun _ _ _ h => h) (Or.inl ⟨by rfl, fun w hw => by go_simp <;> omega⟩) h0 ?_
  simp only [Act.put, List.setIfInBounds_toArray, List.set_cons_zero, List.set_cons_succ]
  refine wpAnyH_ready (rs := [14]) (by kernel_rfl) (by simp) (AllReadyH.cons rfl (fun K hK => ?_) AllReadyH.nil)
  go_simp
  go_wp2_with (go_at_call 14; refine (T2.out _).mono ?_; rintro e w4 ⟨rfl, rfl⟩)
  refine hK.out _ _ HA.out (fun h0 => ?_)
  clear hK K
  refine hd_take 15 (some 26) (.string (s0 ++ (⟨#[46]⟩ : ByteArray) ++ s1 ++ (⟨#[46]⟩ : ByteArray) ++ s2)) rfl rfl (by kernel_rfl) (by kernel_rfl) (by kernel_rfl) (fun _ _ _ h => h) (Or.inl ⟨by rfl, fun w hw => by go_simp <;> omega⟩) h0 ?_
  simp only [Act.put, List.setIfInBounds_toArray, List.set_cons_zero, List.set_cons_succ]
  refine hd_take 16 (some 27) (.string (s0 ++ (⟨#[46]⟩ : ByteArray) ++ s1 ++ (⟨#[46]⟩ : ByteArray) ++ s2 ++ (⟨#[46]⟩ : ByteArray))) rfl rfl (by kernel_rfl) (by kernel_rfl) (by kernel_rfl) (fun _ _ _ h => h) (Or.inl ⟨by rfl, fun w hw => by go_simp <;> omega⟩) h0 ?_
  simp only [Act.put, List.setIfInBounds_toArray, List.set_cons_zero, List.set_cons_succ]
  refine wpAnyH_ready (rs := [20]) (by kernel_rfl) (by simp) (AllReadyH.cons rfl (fun K hK => ?_) AllReadyH.nil)
  go_simp
  go_wp2_with (go_at_call 14; refine (T3.out _).mono ?_; rintro e w4 ⟨rfl, rfl⟩)
  refine hK.out _ _ HA.out (fun h0 => ?_)
  clear hK K
  refine hd_take 21 (some 32) (.string (s0 ++ (⟨#[46]⟩ : ByteArray) ++ s1 ++ (⟨#[46]⟩ : ByteArray) ++ s2 ++ (⟨#[46]⟩ : ByteArray) ++ s3)) rfl rfl (by kernel_rfl) (by kernel_rfl) (by kernel_rfl) (fun _ _ _ h => h) (Or.inl ⟨by rfl, fun w hw => by go_simp <;> omega⟩) h0 ?_
  simp only [Act.put, List.setIfInBounds_toArray, List.set_cons_zero, List.set_cons_succ]
  refine hd_take 22 (some 2) (.string (s0 ++ (⟨#[46]⟩ : ByteArray) ++ s1 ++ (⟨#[46]⟩ : ByteArray) ++ s2 ++ (⟨#[46]⟩ : ByteArray) ++ s3)) rfl rfl (by kernel_rfl) (by kernel_rfl) (by kernel_rfl) (fun _ _ _ h => h) (Or.inl ⟨by rfl, fun w hw => by go_simp <;> omega⟩) h0 ?_
  simp only [Act.put, List.setIfInBounds_toArray, List.set_cons_zero, List.set_cons_succ]
  refine wpAnyH_done (by kernel_rfl) ?_ _
  go_wp2_with fail
  go_ret
  refine ⟨by rw [HTX.out]; rfl, ?_⟩
  rw [hG]
  exact HL.out.trans ((Below.refl _ _).drew)
end Go.Proofs.YtgpgkfbbpiialaaGreatDoor.Ad
