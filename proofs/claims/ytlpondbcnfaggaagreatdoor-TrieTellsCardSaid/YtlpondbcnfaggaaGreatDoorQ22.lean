/-
  Contract of hagioscoperef03.Print at an address of four bytes.
-/
import Derived.Test.YtlpondbcnfaggaaGreatDoorQ21
import Derived.Test.YtlpondbcnfaggaaGreatDoorQ19
import Derived.Test.YtlpondbcnfaggaaGreatDoorQ07
import Derived.Test.YtlpondbcnfaggaaGreatDoorQ16
import Derived.Test.YtlpondbcnfaggaaGreatDoorQ17
import Derived.Test.YtlpondbcnfaggaaGreatDoorQ20
namespace Go.Proofs.YtlpondbcnfaggaaGreatDoor.Ad
open Go.RowKit Go.Proofs.YtlpondbcnfaggaaGreatDoor.Wd Go.Proofs.YtlpondbcnfaggaaGreatDoor.Asc

theorem text4_form (a : List UInt8) (ha : a.length = 16) : ∃ b0 b1 b2 b3 : UInt8, a[12]? = some b0 ∧ a[13]? = some b1 ∧ a[14]? = some b2 ∧ a[15]? = some b3 ∧
    txtS b0.toNat ++ (⟨#[46]⟩ : ByteArray) ++ txtS b1.toNat ++ (⟨#[46]⟩ : ByteArray) ++ txtS b2.toNat ++ (⟨#[46]⟩ : ByteArray) ++ txtS b3.toNat = str (text4 a) := by
  match a, ha with
  | [a0, a1, a2, a3, a4, a5, a6, a7, a8, a9, a10, a11, a12, a13, a14, a15], _ =>
    refine ⟨a12, a13, a14, a15, rfl, rfl, rfl, rfl, ?_⟩
    have ht : ∀ c : UInt8, txtS c.toNat = str (Lib.itoa (c.toNat : Int)) := fun c => by rw [Lib.itoa_nonneg, ← txt_dec]; rfl
    rw [ht, ht, ht, ht, show (⟨#[46]⟩ : ByteArray) = str [46] from rfl, str_cat, str_cat, str_cat, str_cat, str_cat, str_cat]
    congr 1
    show _ = rowT 46 Lib.itoa [(a12.toNat : Int), (a13.toNat : Int), (a14.toNat : Int), (a15.toNat : Int)] 4
    simp [rowT]

set_option linter.unusedSimpArgs false in
set_option maxRecDepth 100000 in
set_option maxHeartbeats 4000000 in
theorem rprint_four (a : List UInt8) (ha : a.length = 16) (hf : fourS a = true) (w : World) :
    Calls Tryz.prog 152 #[.agg (cA a)] w fun e w' => e = .returned (.string (str (text4 a))) ∧ Below w.heap.size w w' := by
  have HF := Lib.hid hf
  obtain ⟨b0, b1, b2, b3, c0, c1, c2, c3, htx⟩ := text4_form a ha
  have HTX := Lib.hid htx
  clear hf htx
  go_enter Tryz.func152, Tryz.ntmps152
  have k0 := Blk.new w 48 (cA a)
  go_wp2_with (refine go_ld 48 k0 und16 rfl info16 (by rw [cA_size, ha]) rfl rfl rfl ?_)
  refine (rfour_any a ha _).mono ?_
  rintro e w1 ⟨rfl, hb1⟩
  rw [HF.out]
  have k1 := k0.below hb1 k0.lt
  have HL := Lib.hid (((Below.refl w.heap.size w).alloc (Nat.le_refl _) (.cells (cA a) 48)).trans (hb1.mono (by simp)))
  have d0 : w1.cell? ⟨w.heap.size, 12, none⟩ = some (.int .u8 (b0.toNat : Int)) := by rw [cell_a k1 12, c0]; rfl
  have d1 : w1.cell? ⟨w.heap.size, 13, none⟩ = some (.int .u8 (b1.toNat : Int)) := by rw [cell_a k1 13, c1]; rfl
  have d2 : w1.cell? ⟨w.heap.size, 14, none⟩ = some (.int .u8 (b2.toNat : Int)) := by rw [cell_a k1 14, c2]; rfl
  have d3 : w1.cell? ⟨w.heap.size, 15, none⟩ = some (.int .u8 (b3.toNat : Int)) := by rw [cell_a k1 15, c3]; rfl
  have e0 := b0.toNat_lt
  have e1 := b1.toNat_lt
  have e2 := b2.toNat_lt
  have e3 := b3.toNat_lt
  have z0 := txtS_size b0.toNat
  have z1 := txtS_size b1.toNat
  have z2 := txtS_size b2.toNat
  have z3 := txtS_size b3.toNat
  have T0 := Lib.hid (fun w => text_any b0.toNat _ w rfl (by omega))
  have T1 := Lib.hid (fun w => text_any b1.toNat _ w rfl (by omega))
  have T2 := Lib.hid (fun w => text_any b2.toNat _ w rfl (by omega))
  have T3 := Lib.hid (fun w => text_any b3.toNat _ w rfl (by omega))
  generalize txtS b0.toNat = s0 at *
  generalize txtS b1.toNat = s1 at *
  generalize txtS b2.toNat = s2 at *
  generalize txtS b3.toNat = s3 at *
  generalize b0.toNat = n0 at *
  generalize b1.toNat = n1 at *
  generalize b2.toNat = n2 at *
  generalize b3.toNat = n3 at *
  have hd : (⟨#[46]⟩ : ByteArray).size = 1 := rfl
  have y1 : (s0 ++ (⟨#[46]⟩ : ByteArray)).size ≤ 300 := by rw [ByteArray.size_append]; omega
  have y2 : (s0 ++ (⟨#[46]⟩ : ByteArray) ++ s1).size ≤ 600 := by rw [ByteArray.size_append]; omega
  have y3 : (s0 ++ (⟨#[46]⟩ : ByteArray) ++ s1 ++ (⟨#[46]⟩ : ByteArray)).size ≤ 700 := by rw [ByteArray.size_append]; omega
  have y4 : (s0 ++ (⟨#[46]⟩ : ByteArray) ++ s1 ++ (⟨#[46]⟩ : ByteArray) ++ s2).size ≤ 1000 := by rw [ByteArray.size_append]; omega
  have y5 : (s0 ++ (⟨#[46]⟩ : ByteArray) ++ s1 ++ (⟨#[46]⟩ : ByteArray) ++ s2 ++ (⟨#[46]⟩ : ByteArray)).size ≤ 1100 := by rw [ByteArray.size_append]; omega
  have x0 : s0.size ≤ 300 := by omega
  have x1 : s1.size ≤ 300 := by omega
  have x2 : s2.size ≤ 300 := by omega
  have x3 : s3.size ≤ 300 := by omega
  have i0 : IntKind.i64.wrap (n0 : Int) = (n0 : Int) := IntWalk.i64_in _ (by omega)
  have i1 : IntKind.i64.wrap (n1 : Int) = (n1 : Int) := IntWalk.i64_in _ (by omega)
  have i2 : IntKind.i64.wrap (n2 : Int) = (n2 : Int) := IntWalk.i64_in _ (by omega)
  have i3 : IntKind.i64.wrap (n3 : Int) = (n3 : Int) := IntWalk.i64_in _ (by omega)
  clear z0 z1 z2 z3 k0 k1 hb1 c0 c1 c2 c3 hd
  generalize hG : w.heap.size = G at *
  have HA := Lib.hid (show w1.drew.cell? ⟨G, 12, none⟩ = some (.int .u8 (n0 : Int)) ∧ w1.drew.cell? ⟨G, 13, none⟩ = some (.int .u8 (n1 : Int)) ∧ w1.drew.cell? ⟨G, 14, none⟩ = some (.int .u8 (n2 : Int)) ∧ w1.drew.cell? ⟨G, 15, none⟩ = some (.int .u8 (n3 : Int)) from ⟨d0, d1, d2, d3⟩)
  clear d0 d1 d2 d3
  go_wp2_with fail
  refine wp_region_held_drew (S := fun w' => w'.cell? ⟨G, 12, none⟩ = some (.int .u8 (n0 : Int)) ∧ w'.cell? ⟨G, 13, none⟩ = some (.int .u8 (n1 : Int)) ∧ w'.cell? ⟨G, 14, none⟩ = some (.int .u8 (n2 : Int)) ∧ w'.cell? ⟨G, 15, none⟩ = some (.int .u8 (n3 : Int))) (by kernel_rfl) HA.out (fun h0 => ?_)
  refine hd_take 0 (some 11) (.pointer (some ⟨G, 12, none⟩)) rfl rfl (by kernel_rfl) (by kernel_rfl) (by kernel_rfl) (fun _ _ _ h => h) (Or.inl ⟨by rfl, fun w hw => by go_simp <;> omega⟩) h0 ?_
  simp only [Act.put, List.setIfInBounds_toArray, List.set_cons_zero, List.set_cons_succ]
  refine hd_take 1 (some 12) (.int .u8 (n0 : Int)) rfl rfl (by kernel_rfl) (by kernel_rfl) (by kernel_rfl) (fun _ _ _ h => h) (Or.inl ⟨by rfl, fun w hw => by obtain ⟨q0, q1, q2, q3⟩ := hw; go_simp⟩) h0 ?_
  simp only [Act.put, List.setIfInBounds_toArray, List.set_cons_zero, List.set_cons_succ]
  refine hd_take 2 (some 13) (.int .i64 (n0 : Int)) rfl rfl (by kernel_rfl) (by kernel_rfl) (by kernel_rfl) (fun _ _ _ h => h) (Or.inl ⟨by rfl, fun w hw => by go_simp <;> omega⟩) h0 ?_
  simp only [Act.put, List.setIfInBounds_toArray, List.set_cons_zero, List.set_cons_succ]
  refine hd_take 5 (some 16) (.pointer (some ⟨G, 13, none⟩)) rfl rfl (by kernel_rfl) (by kernel_rfl) (by kernel_rfl) (fun _ _ _ h => h) (Or.inl ⟨by rfl, fun w hw => by go_simp <;> omega⟩) h0 ?_
  simp only [Act.put, List.setIfInBounds_toArray, List.set_cons_zero, List.set_cons_succ]
  refine hd_take 6 (some 17) (.int .u8 (n1 : Int)) rfl rfl (by kernel_rfl) (by kernel_rfl) (by kernel_rfl) (fun _ _ _ h => h) (Or.inl ⟨by rfl, fun w hw => by obtain ⟨q0, q1, q2, q3⟩ := hw; go_simp⟩) h0 ?_
  simp only [Act.put, List.setIfInBounds_toArray, List.set_cons_zero, List.set_cons_succ]
  refine hd_take 7 (some 18) (.int .i64 (n1 : Int)) rfl rfl (by kernel_rfl) (by kernel_rfl) (by kernel_rfl) (fun _ _ _ h => h) (Or.inl ⟨by rfl, fun w hw => by go_simp <;> omega⟩) h0 ?_
  simp only [Act.put, List.setIfInBounds_toArray, List.set_cons_zero, List.set_cons_succ]
  refine hd_take 11 (some 22) (.pointer (some ⟨G, 14, none⟩)) rfl rfl (by kernel_rfl) (by kernel_rfl) (by kernel_rfl) (fun _ _ _ h => h) (Or.inl ⟨by rfl, fun w hw => by go_simp <;> omega⟩) h0 ?_
  simp only [Act.put, List.setIfInBounds_toArray, List.set_cons_zero, List.set_cons_succ]
  refine hd_take 12 (some 23) (.int .u8 (n2 : Int)) rfl rfl (by kernel_rfl) (by kernel_rfl) (by kernel_rfl) (fun _ _ _ h => h) (Or.inl ⟨by rfl, fun w hw => by obtain ⟨q0, q1, q2, q3⟩ := hw; go_simp⟩) h0 ?_
  simp only [Act.put, List.setIfInBounds_toArray, List.set_cons_zero, List.set_cons_succ]
  refine hd_take 13 (some 24) (.int .i64 (n2 : Int)) rfl rfl (by kernel_rfl) (by kernel_rfl) (by kernel_rfl) (fun _ _ _ h => h) (Or.inl ⟨by rfl, fun w hw => by go_simp <;> omega⟩) h0 ?_
  simp only [Act.put, List.setIfInBounds_toArray, List.set_cons_zero, List.set_cons_succ]
  refine hd_take 17 (some 28) (.pointer (some ⟨G, 15, none⟩)) rfl rfl (by kernel_rfl) (by kernel_rfl) (by kernel_rfl) (fun _ _ _ h => h) (Or.inl ⟨by rfl, fun w hw => by go_simp <;> omega⟩) h0 ?_
  simp only [Act.put, List.setIfInBounds_toArray, List.set_cons_zero, List.set_cons_succ]
  refine hd_take 18 (some 29) (.int .u8 (n3 : Int)) rfl rfl (by kernel_rfl) (by kernel_rfl) (by kernel_rfl) (fun _ _ _ h => h) (Or.inl ⟨by rfl, fun w hw => by obtain ⟨q0, q1, q2, q3⟩ := hw; go_simp⟩) h0 ?_
  simp only [Act.put, List.setIfInBounds_toArray, List.set_cons_zero, List.set_cons_succ]
  refine hd_take 19 (some 30) (.int .i64 (n3 : Int)) rfl rfl (by kernel_rfl) (by kernel_rfl) (by kernel_rfl) (fun _ _ _ h => h) (Or.inl ⟨by rfl, fun w hw => by go_simp <;> omega⟩) h0 ?_
  simp only [Act.put, List.setIfInBounds_toArray, List.set_cons_zero, List.set_cons_succ]
  refine wpAnyH_ready (rs := [3]) (by kernel_rfl) (by simp) (AllReadyH.cons rfl (fun K hK => ?_) AllReadyH.nil)
  go_simp
  go_wp2_with (go_at_call 178; refine (T0.out _).mono ?_; rintro e w4 ⟨rfl, rfl⟩)
  refine hK.out _ _ HA.out (fun h0 => ?_)
  clear hK K
  refine hd_take 4 (some 15) (.string (s0 ++ (⟨#[46]⟩ : ByteArray))) rfl rfl (by kernel_rfl) (by kernel_rfl) (by kernel_rfl) (fun _ _ _ h => h) (Or.inl ⟨by rfl, fun w hw => by go_simp <;> omega⟩) h0 ?_
  simp only [Act.put, List.setIfInBounds_toArray, List.set_cons_zero, List.set_cons_succ]
  refine wpAnyH_ready (rs := [8]) (by kernel_rfl) (by simp) (AllReadyH.cons rfl (fun K hK => ?_) AllReadyH.nil)
  go_simp
  go_wp2_with (go_at_call 178; refine (T1.out _).mono ?_; rintro e w4 ⟨rfl, rfl⟩)
  refine hK.out _ _ HA.out (fun h0 => ?_)
  clear hK K
  refine hd_take 9 (some 20) (.string (s0 ++ (⟨#[46]⟩ : ByteArray) ++ s1)) rfl rfl (by kernel_rfl) (by kernel_rfl) (by kernel_rfl) (fun _ _ _ h => h) (Or.inl ⟨by rfl, fun w hw => by go_simp <;> omega⟩) h0 ?_
  simp only [Act.put, List.setIfInBounds_toArray, List.set_cons_zero, List.set_cons_succ]
  refine hd_take 10 (some 21) (.string (s0 ++ (⟨#[46]⟩ : ByteArray) ++ s1 ++ (⟨#[46]⟩ : ByteArray))) rfl rfl (by kernel_rfl) (by kernel_rfl) (by kernel_rfl) (fun _ _ _ h => h) (Or.inl ⟨by rfl, fun w hw => by go_simp <;> omega⟩) h0 ?_
  simp only [Act.put, List.setIfInBounds_toArray, List.set_cons_zero, List.set_cons_succ]
  refine wpAnyH_ready (rs := [14]) (by kernel_rfl) (by simp) (AllReadyH.cons rfl (fun K hK => ?_) AllReadyH.nil)
  go_simp
  go_wp2_with (go_at_call 178; refine (T2.out _).mono ?_; rintro e w4 ⟨rfl, rfl⟩)
  refine hK.out _ _ HA.out (fun h0 => ?_)
  clear hK K
  refine hd_take 15 (some 26) (.string (s0 ++ (⟨#[46]⟩ : ByteArray) ++ s1 ++ (⟨#[46]⟩ : ByteArray) ++ s2)) rfl rfl (by kernel_rfl) (by kernel_rfl) (by kernel_rfl) (fun _ _ _ h => h) (Or.inl ⟨by rfl, fun w hw => by go_simp <;> omega⟩) h0 ?_
  simp only [Act.put, List.setIfInBounds_toArray, List.set_cons_zero, List.set_cons_succ]
  refine hd_take 16 (some 27) (.string (s0 ++ (⟨#[46]⟩ : ByteArray) ++ s1 ++ (⟨#[46]⟩ : ByteArray) ++ s2 ++ (⟨#[46]⟩ : ByteArray))) rfl rfl (by kernel_rfl) (by kernel_rfl) (by kernel_rfl) (fun _ _ _ h => h) (Or.inl ⟨by rfl, fun w hw => by go_simp <;> omega⟩) h0 ?_
  simp only [Act.put, List.setIfInBounds_toArray, List.set_cons_zero, List.set_cons_succ]
  refine wpAnyH_ready (rs := [20]) (by kernel_rfl) (by simp) (AllReadyH.cons rfl (fun K hK => ?_) AllReadyH.nil)
  go_simp
  go_wp2_with (go_at_call 178; refine (T3.out _).mono ?_; rintro e w4 ⟨rfl, rfl⟩)
  refine hK.out _ _ HA.out (fun h0 => ?_)
  clear hK K
  refine hd_take 21 (some 32) (.string (s0 ++ (⟨#[46]⟩ : ByteArray) ++ s1 ++ (⟨#[46]⟩ : ByteArray) ++ s2 ++ (⟨#[46]⟩ : ByteArray) ++ s3)) rfl rfl (by kernel_rfl) (by kernel_rfl) (by kernel_rfl) (fun _ _ _ h => h) (Or.inl ⟨by rfl, fun w hw => by go_simp <;> omega⟩) h0 ?_
  simp only [Act.put, List.setIfInBounds_toArray, List.set_cons_zero, List.set_cons_succ]
  refine hd_take 22 (some 2) (.string (s0 ++ (⟨#[46]⟩ : ByteArray) ++ s1 ++ (⟨#[46]⟩ : ByteArray) ++ s2 ++ (⟨#[46]⟩ : ByteArray) ++ s3)) rfl rfl (by kernel_rfl) (by kernel_rfl) (by kernel_rfl) (fun _ _ _ h => h) (Or.inl ⟨by rfl, fun w hw => by go_simp <;> omega⟩) h0 ?_
  simp only [Act.put, List.setIfInBounds_toArray, List.set_cons_zero, List.set_cons_succ]
  refine wpAnyH_done (by kernel_rfl) ?_ _
  go_wp2_with fail
  go_ret
  refine ⟨by rw [HTX.out]; rfl, ?_⟩
  rw [hG]
  exact HL.out.trans ((Below.refl _ _).drew)
end Go.Proofs.YtlpondbcnfaggaaGreatDoor.Ad

/-
  Contract of hagioscoperef03.Print.
-/
namespace Go.Proofs.YtlpondbcnfaggaaGreatDoor.Ad
open Go.RowKit Go.Proofs.YtlpondbcnfaggaaGreatDoor.Wd Go.Proofs.YtlpondbcnfaggaaGreatDoor.Asc

theorem rprint_any (a : List UInt8) (ha : a.length = 16) (w : World) :
    Calls Tryz.prog 152 #[.agg (cA a)] w fun e w' => e = .returned (.string (str (ctext a))) ∧ Below w.heap.size w w' := by
  unfold ctext
  cases hf : fourS a with
  | true => rw [if_pos rfl]; exact rprint_four a ha hf w
  | false =>
    rw [if_neg (by simp)]
    by_cases h2 : (bR (pairs a) 8).2 < 2
    · exact rprint_lo a ha hf h2 w
    · exact rprint_hi a ha hf h2 w
end Go.Proofs.YtlpondbcnfaggaaGreatDoor.Ad

/-
  Contracts of hagioscoperef14's label, digits, Normal and Labels, and of hagioscoperef10.Rows, over this seat's translation: they answer what labS, digS, normalS and labelsS say.
-/
namespace Go.Proofs.YtlpondbcnfaggaaGreatDoor.Nm
open Go.RowKit Go.Proofs.YtlpondbcnfaggaaGreatDoor.Wd Go.Proofs.YtlpondbcnfaggaaGreatDoor.Asc Go.Proofs.YtlpondbcnfaggaaGreatDoor.Ad

def LbAt (s : ByteArray) (f : UInt8 → Bool) (x : Value) : Prop := ∃ k : Nat, x = .int .i64 k ∧ k ≤ s.size ∧ ((bs s).take k).all f = true
set_option linter.unusedSimpArgs false in
set_option maxRecDepth 100000 in
set_option maxHeartbeats 8000000 in
theorem rlabel_any (s : ByteArray) (w : World) (hs : s.size < 4294967281) :
    Calls Tryz.prog 154 #[.string s] w fun e w' => e = .returned (.bool (labS (bs s))) ∧ w = w' := by
  have HM : Hid (labS (bs s) = (decide (1 ≤ s.size) && decide (s.size ≤ 63) && (bs s).all labB && !decide ((bs s).head? = some 45) && !decide ((bs s).getLast? = some 45))) := Lib.hid (by
    unfold labS
    rw [bs_length]
    simp only [ne_eq, decide_not])
  go_enter Tryz.func154, Tryz.ntmps154
  go_wp2
  go_loop [3] (fun x => LbAt s labB x) (fun x => s.size - (intOf x).toNat)
  case atStart => exact ⟨0, rfl, Nat.zero_le _, rfl⟩
  case round =>
    obtain ⟨k, rfl, hk, ht⟩ := hrel
    have HT := Lib.hid ht
    clear ht
    by_cases hp : k < s.size
    · have HN := fun (h : labB (s[k]'hp) = true) => Lib.hid (all_step s labB k hp HT.out h)
      have HY := fun (h : labB (s[k]'hp) = false) => Lib.hid (all_hit s labB k hp h)
      have hcl : (s[k]'hp).toNat < 45 ∨ (s[k]'hp).toNat = 45 ∨ (46 ≤ (s[k]'hp).toNat ∧ (s[k]'hp).toNat ≤ 47) ∨ (48 ≤ (s[k]'hp).toNat ∧ (s[k]'hp).toNat ≤ 57) ∨ (58 ≤ (s[k]'hp).toNat ∧ (s[k]'hp).toNat ≤ 64) ∨
        (65 ≤ (s[k]'hp).toNat ∧ (s[k]'hp).toNat ≤ 90) ∨ (91 ≤ (s[k]'hp).toNat ∧ (s[k]'hp).toNat ≤ 94) ∨ (s[k]'hp).toNat = 95 ∨ (s[k]'hp).toNat = 96 ∨ (97 ≤ (s[k]'hp).toNat ∧ (s[k]'hp).toNat ≤ 122) ∨ 123 ≤ (s[k]'hp).toNat := by omega
      have hlab : labB (s[k]'hp) = decide ((97 ≤ (s[k]'hp).toNat ∧ (s[k]'hp).toNat ≤ 122) ∨ (65 ≤ (s[k]'hp).toNat ∧ (s[k]'hp).toNat ≤ 90) ∨ (48 ≤ (s[k]'hp).toNat ∧ (s[k]'hp).toNat ≤ 57) ∨ (s[k]'hp).toNat = 45 ∨ (s[k]'hp).toNat = 95) := rfl
      rcases hcl with hc | hc | hc | hc | hc | hc | hc | hc | hc | hc | hc
      · have H := HY (by rw [hlab, decide_eq_false_iff_not]; omega)
        have q0 : decide ((97 : Int) ≤ ((s[k]'hp).toNat : Int)) = false := by rw [decide_eq_false_iff_not]; omega
        have q1 : decide ((65 : Int) ≤ ((s[k]'hp).toNat : Int)) = false := by rw [decide_eq_false_iff_not]; omega
        have q2 : decide ((48 : Int) ≤ ((s[k]'hp).toNat : Int)) = false := by rw [decide_eq_false_iff_not]; omega
        have q3 : (((s[k]'hp).toNat : Int) == 45) = false := by rw [beq_eq_false_iff_ne]; omega
        have q4 : (((s[k]'hp).toNat : Int) == 95) = false := by rw [beq_eq_false_iff_ne]; omega
        clear HN HY hlab hc
        go_wp2
        go_ret
        exact ⟨ret_b (by rw [HM.out, H.out]; simp), rfl⟩
      · have H := HN (by rw [hlab, decide_eq_true_iff]; omega)
        have q0 : decide ((97 : Int) ≤ ((s[k]'hp).toNat : Int)) = false := by rw [decide_eq_false_iff_not]; omega
        have q1 : decide ((65 : Int) ≤ ((s[k]'hp).toNat : Int)) = false := by rw [decide_eq_false_iff_not]; omega
        have q2 : decide ((48 : Int) ≤ ((s[k]'hp).toNat : Int)) = false := by rw [decide_eq_false_iff_not]; omega
        have q3 : (((s[k]'hp).toNat : Int) == 45) = true := by rw [beq_iff_eq]; omega
        clear HN HY hlab hc
        go_wp2
        go_round
        case rel => exact ⟨k + 1, by go_num, hp, H.out⟩
        case measure => simp [intOf]; omega
      · have H := HY (by rw [hlab, decide_eq_false_iff_not]; omega)
        have q0 : decide ((97 : Int) ≤ ((s[k]'hp).toNat : Int)) = false := by rw [decide_eq_false_iff_not]; omega
        have q1 : decide ((65 : Int) ≤ ((s[k]'hp).toNat : Int)) = false := by rw [decide_eq_false_iff_not]; omega
        have q2 : decide ((48 : Int) ≤ ((s[k]'hp).toNat : Int)) = false := by rw [decide_eq_false_iff_not]; omega
        have q3 : (((s[k]'hp).toNat : Int) == 45) = false := by rw [beq_eq_false_iff_ne]; omega
        have q4 : (((s[k]'hp).toNat : Int) == 95) = false := by rw [beq_eq_false_iff_ne]; omega
        clear HN HY hlab hc
        go_wp2
        go_ret
        exact ⟨ret_b (by rw [HM.out, H.out]; simp), rfl⟩
      · have H := HN (by rw [hlab, decide_eq_true_iff]; omega)
        have q0 : decide ((97 : Int) ≤ ((s[k]'hp).toNat : Int)) = false := by rw [decide_eq_false_iff_not]; omega
        have q1 : decide ((65 : Int) ≤ ((s[k]'hp).toNat : Int)) = false := by rw [decide_eq_false_iff_not]; omega
        have q2 : decide ((48 : Int) ≤ ((s[k]'hp).toNat : Int)) = true := by rw [decide_eq_true_iff]; omega
        have q3 : decide (((s[k]'hp).toNat : Int) ≤ 57) = true := by rw [decide_eq_true_iff]; omega
        clear HN HY hlab hc
        go_wp2
        go_round
        case rel => exact ⟨k + 1, by go_num, hp, H.out⟩
        case measure => simp [intOf]; omega
      · have H := HY (by rw [hlab, decide_eq_false_iff_not]; omega)
        have q0 : decide ((97 : Int) ≤ ((s[k]'hp).toNat : Int)) = false := by rw [decide_eq_false_iff_not]; omega
        have q1 : decide ((65 : Int) ≤ ((s[k]'hp).toNat : Int)) = false := by rw [decide_eq_false_iff_not]; omega
        have q2 : decide ((48 : Int) ≤ ((s[k]'hp).toNat : Int)) = true := by rw [decide_eq_true_iff]; omega
        have q3 : decide (((s[k]'hp).toNat : Int) ≤ 57) = false := by rw [decide_eq_false_iff_not]; omega
        have q4 : (((s[k]'hp).toNat : Int) == 45) = false := by rw [beq_eq_false_iff_ne]; omega
        have q5 : (((s[k]'hp).toNat : Int) == 95) = false := by rw [beq_eq_false_iff_ne]; omega
        clear HN HY hlab hc
        go_wp2
        go_ret
        exact ⟨ret_b (by rw [HM.out, H.out]; simp), rfl⟩
      · have H := HN (by rw [hlab, decide_eq_true_iff]; omega)
        have q0 : decide ((97 : Int) ≤ ((s[k]'hp).toNat : Int)) = false := by rw [decide_eq_false_iff_not]; omega
        have q1 : decide ((65 : Int) ≤ ((s[k]'hp).toNat : Int)) = true := by rw [decide_eq_true_iff]; omega
        have q2 : decide (((s[k]'hp).toNat : Int) ≤ 90) = true := by rw [decide_eq_true_iff]; omega
        clear HN HY hlab hc
        go_wp2
        go_round
        case rel => exact ⟨k + 1, by go_num, hp, H.out⟩
        case measure => simp [intOf]; omega
      · have H := HY (by rw [hlab, decide_eq_false_iff_not]; omega)
        have q0 : decide ((97 : Int) ≤ ((s[k]'hp).toNat : Int)) = false := by rw [decide_eq_false_iff_not]; omega
        have q1 : decide ((65 : Int) ≤ ((s[k]'hp).toNat : Int)) = true := by rw [decide_eq_true_iff]; omega
        have q2 : decide (((s[k]'hp).toNat : Int) ≤ 90) = false := by rw [decide_eq_false_iff_not]; omega
        have q3 : decide ((48 : Int) ≤ ((s[k]'hp).toNat : Int)) = true := by rw [decide_eq_true_iff]; omega
        have q4 : decide (((s[k]'hp).toNat : Int) ≤ 57) = false := by rw [decide_eq_false_iff_not]; omega
        have q5 : (((s[k]'hp).toNat : Int) == 45) = false := by rw [beq_eq_false_iff_ne]; omega
        have q6 : (((s[k]'hp).toNat : Int) == 95) = false := by rw [beq_eq_false_iff_ne]; omega
        clear HN HY hlab hc
        go_wp2
        go_ret
        exact ⟨ret_b (by rw [HM.out, H.out]; simp), rfl⟩
      · have H := HN (by rw [hlab, decide_eq_true_iff]; omega)
        have q0 : decide ((97 : Int) ≤ ((s[k]'hp).toNat : Int)) = false := by rw [decide_eq_false_iff_not]; omega
        have q1 : decide ((65 : Int) ≤ ((s[k]'hp).toNat : Int)) = true := by rw [decide_eq_true_iff]; omega
        have q2 : decide (((s[k]'hp).toNat : Int) ≤ 90) = false := by rw [decide_eq_false_iff_not]; omega
        have q3 : decide ((48 : Int) ≤ ((s[k]'hp).toNat : Int)) = true := by rw [decide_eq_true_iff]; omega
        have q4 : decide (((s[k]'hp).toNat : Int) ≤ 57) = false := by rw [decide_eq_false_iff_not]; omega
        have q5 : (((s[k]'hp).toNat : Int) == 45) = false := by rw [beq_eq_false_iff_ne]; omega
        have q6 : (((s[k]'hp).toNat : Int) == 95) = true := by rw [beq_iff_eq]; omega
        clear HN HY hlab hc
        go_wp2
        go_round
        case rel => exact ⟨k + 1, by go_num, hp, H.out⟩
        case measure => simp [intOf]; omega
      · have H := HY (by rw [hlab, decide_eq_false_iff_not]; omega)
        have q0 : decide ((97 : Int) ≤ ((s[k]'hp).toNat : Int)) = false := by rw [decide_eq_false_iff_not]; omega
        have q1 : decide ((65 : Int) ≤ ((s[k]'hp).toNat : Int)) = true := by rw [decide_eq_true_iff]; omega
        have q2 : decide (((s[k]'hp).toNat : Int) ≤ 90) = false := by rw [decide_eq_false_iff_not]; omega
        have q3 : decide ((48 : Int) ≤ ((s[k]'hp).toNat : Int)) = true := by rw [decide_eq_true_iff]; omega
        have q4 : decide (((s[k]'hp).toNat : Int) ≤ 57) = false := by rw [decide_eq_false_iff_not]; omega
        have q5 : (((s[k]'hp).toNat : Int) == 45) = false := by rw [beq_eq_false_iff_ne]; omega
        have q6 : (((s[k]'hp).toNat : Int) == 95) = false := by rw [beq_eq_false_iff_ne]; omega
        clear HN HY hlab hc
        go_wp2
        go_ret
        exact ⟨ret_b (by rw [HM.out, H.out]; simp), rfl⟩
      · have H := HN (by rw [hlab, decide_eq_true_iff]; omega)
        have q0 : decide ((97 : Int) ≤ ((s[k]'hp).toNat : Int)) = true := by rw [decide_eq_true_iff]; omega
        have q1 : decide (((s[k]'hp).toNat : Int) ≤ 122) = true := by rw [decide_eq_true_iff]; omega
        clear HN HY hlab hc
        go_wp2
        go_round
        case rel => exact ⟨k + 1, by go_num, hp, H.out⟩
        case measure => simp [intOf]; omega
      · have H := HY (by rw [hlab, decide_eq_false_iff_not]; omega)
        have q0 : decide ((97 : Int) ≤ ((s[k]'hp).toNat : Int)) = true := by rw [decide_eq_true_iff]; omega
        have q1 : decide (((s[k]'hp).toNat : Int) ≤ 122) = false := by rw [decide_eq_false_iff_not]; omega
        have q2 : decide ((65 : Int) ≤ ((s[k]'hp).toNat : Int)) = true := by rw [decide_eq_true_iff]; omega
        have q3 : decide (((s[k]'hp).toNat : Int) ≤ 90) = false := by rw [decide_eq_false_iff_not]; omega
        have q4 : decide ((48 : Int) ≤ ((s[k]'hp).toNat : Int)) = true := by rw [decide_eq_true_iff]; omega
        have q5 : decide (((s[k]'hp).toNat : Int) ≤ 57) = false := by rw [decide_eq_false_iff_not]; omega
        have q6 : (((s[k]'hp).toNat : Int) == 45) = false := by rw [beq_eq_false_iff_ne]; omega
        have q7 : (((s[k]'hp).toNat : Int) == 95) = false := by rw [beq_eq_false_iff_ne]; omega
        clear HN HY hlab hc
        go_wp2
        go_ret
        exact ⟨ret_b (by rw [HM.out, H.out]; simp), rfl⟩
    · have hal : (bs s).all labB = true := all_no s labB k hp HT.out
      rw [hal] at HM
      clear hal HT
      by_cases h0 : s.size = 0
      · rw [decide_eq_false (show ¬ 1 ≤ s.size by omega)] at HM
        have i0 : ¬ 0 < s.size := by omega
        have i1 : ¬ (0 : Int) < (s.size : Int) := by omega
        clear h0
        go_wp2
        go_ret
        exact ⟨ret_b (by rw [HM.out]; rfl), rfl⟩
      have i0 : decide ((0 : Int) < (s.size : Int)) = true := decide_eq_true (by omega)
      rw [decide_eq_true (show 1 ≤ s.size by omega)] at HM
      by_cases h1 : 63 < s.size
      · rw [decide_eq_false (show ¬ s.size ≤ 63 by omega)] at HM
        have i1 : decide ((s.size : Int) < 64) = false := decide_eq_false (by omega)
        clear h1
        go_wp2
        go_ret
        exact ⟨ret_b (by rw [HM.out]; rfl), rfl⟩
      have i1 : decide ((s.size : Int) < 64) = true := decide_eq_true (by omega)
      rw [decide_eq_true (show s.size ≤ 63 by omega)] at HM
      have hz : 0 < s.size := by omega
      have hh : (bs s).head? = some (s[0]'hz) := by
        rw [List.head?_eq_getElem?, List.getElem?_eq_getElem (by rw [bs_length]; exact hz)]
        exact congrArg some (bs_get s 0 hz)
      obtain ⟨m, hm⟩ : ∃ m, s.size = m + 1 := ⟨s.size - 1, by omega⟩
      have hml : m < s.size := by omega
      have hmi : (s.size : Int) - 1 = (m : Int) := by omega
      have hl : (bs s).getLast? = some (s[m]'hml) := by
        rw [List.getLast?_eq_getElem?, bs_length, show s.size - 1 = m by omega, List.getElem?_eq_getElem (by rw [bs_length]; exact hml)]
        exact congrArg some (bs_get s m hml)
      have e45 : ∀ c : UInt8, decide (some c = some (45 : UInt8)) = ((c.toNat : Int) == 45) := fun c => by
        rw [Bool.eq_iff_iff, decide_eq_true_eq, beq_iff_eq, Option.some.injEq]
        exact ⟨fun h => by subst h; rfl, fun h => UInt8.toNat.inj (by show c.toNat = 45; omega)⟩
      rw [hh, hl, e45, e45] at HM
      clear hh hl e45 hm h1 h0
      cases g1 : (((s[0]'hz).toNat : Int) == 45)
      · have n1 : (((s[0]'hz).toNat : Int) != 45) = true := by rw [bne, g1]; rfl
        cases g2 : (((s[m]'hml).toNat : Int) == 45)
        · have n2 : (((s[m]'hml).toNat : Int) != 45) = true := by rw [bne, g2]; rfl
          rw [g1, g2] at HM
          go_wp2
          go_ret
          exact ⟨ret_b (by rw [HM.out]; rfl), rfl⟩
        · have n2 : (((s[m]'hml).toNat : Int) != 45) = false := by rw [bne, g2]; rfl
          rw [g1, g2] at HM
          go_wp2
          go_ret
          exact ⟨ret_b (by rw [HM.out]; rfl), rfl⟩
      · have n1 : (((s[0]'hz).toNat : Int) != 45) = false := by rw [bne, g1]; rfl
        rw [g1] at HM
        go_wp2
        go_ret
        exact ⟨ret_b (by rw [HM.out]; rfl), rfl⟩

set_option linter.unusedSimpArgs false in
set_option maxRecDepth 100000 in
set_option maxHeartbeats 4000000 in
theorem rdigits_any (s : ByteArray) (w : World) (hs : s.size < 4294967281) :
    Calls Tryz.prog 155 #[.string s] w fun e w' => e = .returned (.bool (digS (bs s))) ∧ w = w' := by
  go_enter Tryz.func155, Tryz.ntmps155
  go_wp2
  go_loop [3] (fun x => LbAt s digB x) (fun x => s.size - (intOf x).toNat)
  case atStart => exact ⟨0, rfl, Nat.zero_le _, rfl⟩
  case round =>
    obtain ⟨k, rfl, hk, ht⟩ := hrel
    have HT := Lib.hid ht
    clear ht
    by_cases hp : k < s.size
    · have HN := fun (h : digB (s[k]'hp) = true) => Lib.hid (all_step s digB k hp HT.out h)
      have HY := fun (h : digB (s[k]'hp) = false) => Lib.hid (all_hit s digB k hp h)
      have hdig : digB (s[k]'hp) = decide (48 ≤ ((s[k]'hp).toNat : Int) ∧ ((s[k]'hp).toNat : Int) ≤ 57) := rfl
      by_cases a1 : (s[k]'hp).toNat < 48
      · have H := HY (by rw [hdig, decide_eq_false_iff_not]; omega)
        have q0 : decide (((s[k]'hp).toNat : Int) < 48) = true := by rw [decide_eq_true_iff]; omega
        clear HN HY hdig a1
        go_wp2
        go_ret
        exact ⟨ret_b H.out.symm, rfl⟩
      have q0 : decide (((s[k]'hp).toNat : Int) < 48) = false := by rw [decide_eq_false_iff_not]; omega
      by_cases a2 : 57 < (s[k]'hp).toNat
      · have H := HY (by rw [hdig, decide_eq_false_iff_not]; omega)
        have q1 : decide ((57 : Int) < ((s[k]'hp).toNat : Int)) = true := by rw [decide_eq_true_iff]; omega
        clear HN HY hdig a1 a2
        go_wp2
        go_ret
        exact ⟨ret_b H.out.symm, rfl⟩
      · have H := HN (by rw [hdig, decide_eq_true_iff]; omega)
        have q1 : decide ((57 : Int) < ((s[k]'hp).toNat : Int)) = false := by rw [decide_eq_false_iff_not]; omega
        clear HN HY hdig a1 a2
        go_wp2
        go_round
        case rel => exact ⟨k + 1, by go_num, hp, H.out⟩
        case measure => simp [intOf]; omega
    · go_wp2
      go_ret
      exact ⟨ret_b (all_no s digB k hp HT.out).symm, rfl⟩

end Go.Proofs.YtlpondbcnfaggaaGreatDoor.Nm
