/-
  Contract of hagioscoperef04.Print, out of one of hagioscoperef03.Print.
-/
import Derived.Test.YtialcnioeeikpaaGreatDoorRfNum
import Derived.Test.YtialcnioeeikpaaGreatDoorRfOf4
import Derived.Test.YtialcnioeeikpaaGreatDoorAdCPrint4
namespace Go.Proofs.YtialcnioeeikpaaGreatDoor.Ad
open Go.RowKit Go.Proofs.YtialcnioeeikpaaGreatDoor.Wd Go.Proofs.YtialcnioeeikpaaGreatDoor.Asc

set_option linter.unusedSimpArgs false in
set_option maxRecDepth 100000 in
set_option maxHeartbeats 4000000 in
theorem rcprint_of (c : C) (hc : c.a.length = 16) (h0 : -9223372036854775808 ≤ c.n) (h1 : c.n ≤ 9223372036854775807) (T : List UInt8) (hT : T.length ≤ 64) (w : World)
    (hp : ∀ w1, Calls Tryz.prog 35 #[.agg (cA c.a)] w1 fun e w' => e = .returned (.string (str T)) ∧ Below w1.heap.size w1 w') :
    Calls Tryz.prog 14 #[.agg c.cells] w fun e w' => e = .returned (.string (str (cprintS T c))) ∧ Below w.heap.size w w' := by
  have HP := Lib.hid hp
  have HT4 := Lib.hid (fun (m : Int) (h1 : m ≤ 9223372036854775807) (h0 : -9223372036854775808 ≤ m) w => itoa_txt m h1 h0 w)
  clear hp
  have hi : (Tryz.prog.info? 23).map (·.size) = some (cellsOf c.a).length := by rw [cellsOf_length, hc]; exact info16
  have hs1 : (str T).size ≤ 64 := by rw [str_size]; exact hT
  have hfin : ∀ m : Int, bitsI c.a c.n = m → Hid (str T ++ ⟨#[47]⟩ ++ str (Lib.itoa m) = str (cprintS T c)) := fun m hm => by
    subst hm
    show (str T ++ str [47]) ++ str (Lib.itoa (bitsI c.a c.n)) = _
    rw [str_cat, str_cat, cprintS, List.append_assoc]
  generalize str T = s1 at *
  generalize hv : str (cprintS T c) = s3 at *
  clear hv hT
  cases hf : fourS c.a with
  | true =>
    by_cases h96 : 96 ≤ c.n
    · skip
      have HF := Lib.hid hf
      have hm := hfin (c.n - 96) (by rw [bitsI, if_pos ⟨hf, h96⟩])
      have hil := Lib.itoa_length_le (c.n - 96) (by omega) (by omega)
      have HTx := Lib.hid (fun w => HT4.out (c.n - 96) (by omega) (by omega) w)
      have hs2 : (str (Lib.itoa (c.n - 96))).size ≤ 21 := by rw [str_size]; exact hil
      have hwm : IntKind.i64.wrap (c.n - 96) = c.n - 96 := IntWalk.i64_in _ (by omega)
      clear hf hfin HT4 hil
      generalize str (Lib.itoa (c.n - 96)) = s2 at *
      have hs12 : (s1 ++ (⟨#[47]⟩ : ByteArray)).size ≤ 65 := by rw [ByteArray.size_append]; show s1.size + 1 ≤ 65; omega
      go_enter Tryz.func14, Tryz.ntmps14
      go_upto_region 1 with fail
      have b0 := Blk.new w 25 c.cells
      have hbel : Below w.heap.size w (w.alloc (.cells c.cells 25)) := (Below.refl _ _).alloc (Nat.le_refl _) _
      generalize w.alloc (.cells c.cells 25) = w1 at *
      generalize hG : w.heap.size = G at *
      have hr := range_a (rangeC b0)
      have hlt := b0.lt
      have HB := Lib.hid b0
      clear b0
      go_wp2_with (refine wpList_load_mid rfl 23 _ rfl G 0 rfl (cellsOf c.a) _ hr und16 rfl (by rw [cellsOf_length, hc]; exact info16) ?_)
      refine (rfour_any c.a hc _).mono ?_
      rintro e w2 ⟨rfl, hb2⟩
      rw [HF.out]
      have b2 := HB.out.below hb2 hlt
      have hn2 := C_cell16 b2 hc
      have B2 := Lib.hid b2
      have hlt2 := b2.lt
      have HL2 := Lib.hid (hbel.trans (hb2.mono (by have := hbel.size; omega)))
      clear hb2 hr hbel b2 HB
      go_wp2_with fail
      clear hn2
      have HA := Lib.hid (rangeC (w := w2.drew) B2.out)
      refine wp_region_held_drew (S := fun w' => w'.rangeAt G 0 (cL c)) (by kernel_rfl) HA.out (fun h0 => ?_)
      refine hd_take 0 (some 13) (.pointer (some ⟨G, 0, none⟩)) rfl rfl (by kernel_rfl) (by kernel_rfl) (by kernel_rfl) (fun _ _ _ h => h) (Or.inl ⟨by rfl, fun w hw => by go_simp <;> omega⟩) h0 ?_
      simp only [Act.put, List.setIfInBounds_toArray, List.set_cons_zero, List.set_cons_succ]
      refine hd_take 1 (some 14) (.agg (cA c.a)) rfl rfl (by kernel_rfl) (by kernel_rfl) (by kernel_rfl) (fun _ _ _ h => h) (yieldsIf_load_mid (by rfl) _ _ rfl G 0 rfl (cellsOf c.a) _ (fun _ h => range_a h) und16 rfl hi) h0 ?_
      simp only [Act.put, List.setIfInBounds_toArray, List.set_cons_zero, List.set_cons_succ]
      refine hd_take 4 (some 17) (.pointer (some ⟨G, 16, none⟩)) rfl rfl (by kernel_rfl) (by kernel_rfl) (by kernel_rfl) (fun _ _ _ h => h) (Or.inl ⟨by rfl, fun w hw => by go_simp <;> omega⟩) h0 ?_
      simp only [Act.put, List.setIfInBounds_toArray, List.set_cons_zero, List.set_cons_succ]
      refine hd_take 5 (some 18) (.int .i64 c.n) rfl rfl (by kernel_rfl) (by kernel_rfl) (by kernel_rfl) (fun _ _ _ h => h) (Or.inl ⟨by rfl, fun w hw => by have h16 := range_n hw hc; go_simp⟩) h0 ?_
      simp only [Act.put, List.setIfInBounds_toArray, List.set_cons_zero, List.set_cons_succ]
      refine hd_take 6 (some 19) (.int .i64 (c.n - 96)) rfl rfl (by kernel_rfl) (by kernel_rfl) (by kernel_rfl) (fun _ _ _ h => h) (Or.inl ⟨by rfl, fun w hw => by go_simp <;> omega⟩) h0 ?_
      simp only [Act.put, List.setIfInBounds_toArray, List.set_cons_zero, List.set_cons_succ]
      refine wpAnyH_ready (rs := [2]) (by kernel_rfl) (by simp) (AllReadyH.cons rfl (fun K hK => ?_) AllReadyH.nil)
      go_simp
      go_wp2_with (go_at_call 35; refine (HP.out _).mono ?_; rintro e w3 ⟨rfl, hb3⟩; have HB3 := Lib.hid hb3; have b3 : Blk w3 G _ _ := Blk.below (w := w2.drew) B2.out hb3 hlt2; have HC := Lib.hid (rangeC b3); clear b3 hb3)
      refine hK.out _ _ HC.out (fun h2 => ?_)
      clear hK K
      refine hd_take 3 (some 16) (.string (s1 ++ ⟨#[47]⟩)) rfl rfl (by kernel_rfl) (by kernel_rfl) (by kernel_rfl) (fun _ _ _ h => h) (Or.inl ⟨by rfl, fun w hw => by go_simp <;> omega⟩) h2 ?_
      simp only [Act.put, List.setIfInBounds_toArray, List.set_cons_zero, List.set_cons_succ]
      refine wpAnyH_ready (rs := [7]) (by kernel_rfl) (by simp) (AllReadyH.cons rfl (fun K hK => ?_) AllReadyH.nil)
      go_simp
      go_wp2_with (go_at_call 36; refine (HTx.out _).mono ?_; rintro e w4 ⟨rfl, rfl⟩)
      refine hK.out _ _ HC.out (fun h3 => ?_)
      clear hK K
      refine hd_take 8 (some 21) (.string (s1 ++ ⟨#[47]⟩ ++ s2)) rfl rfl (by kernel_rfl) (by kernel_rfl) (by kernel_rfl) (fun _ _ _ h => h) (Or.inl ⟨by rfl, fun w hw => by go_simp <;> omega⟩) h3 ?_
      simp only [Act.put, List.setIfInBounds_toArray, List.set_cons_zero, List.set_cons_succ]
      refine hd_take 9 (some 2) (.string (s1 ++ ⟨#[47]⟩ ++ s2)) rfl rfl (by kernel_rfl) (by kernel_rfl) (by kernel_rfl) (fun _ _ _ h => h) (Or.inl ⟨by rfl, fun w hw => by go_simp <;> omega⟩) h3 ?_
      simp only [Act.put, List.setIfInBounds_toArray, List.set_cons_zero, List.set_cons_succ]
      refine wpAnyH_done (by kernel_rfl) ?_ _
      go_wp2_with fail
      go_ret
      refine ⟨by rw [hm.out]; rfl, ?_⟩
      rw [hG]
      exact HL2.out.trans ((Below.refl _ _).drew.trans (HB3.out.mono (by show G ≤ w2.heap.size; omega)))
    · have h96' : c.n < 96 := by omega
      have HF := Lib.hid hf
      have hm := hfin (c.n) (by rw [bitsI, if_neg (fun h => h96 h.2)])
      have hil := Lib.itoa_length_le (c.n) (by omega) (by omega)
      have HTx := Lib.hid (fun w => HT4.out (c.n) (by omega) (by omega) w)
      have hs2 : (str (Lib.itoa (c.n))).size ≤ 21 := by rw [str_size]; exact hil
      have hwm : IntKind.i64.wrap (c.n) = c.n := IntWalk.i64_in _ (by omega)
      clear hf hfin HT4 hil
      generalize str (Lib.itoa (c.n)) = s2 at *
      have hs12 : (s1 ++ (⟨#[47]⟩ : ByteArray)).size ≤ 65 := by rw [ByteArray.size_append]; show s1.size + 1 ≤ 65; omega
      go_enter Tryz.func14, Tryz.ntmps14
      go_upto_region 1 with fail
      have b0 := Blk.new w 25 c.cells
      have hbel : Below w.heap.size w (w.alloc (.cells c.cells 25)) := (Below.refl _ _).alloc (Nat.le_refl _) _
      generalize w.alloc (.cells c.cells 25) = w1 at *
      generalize hG : w.heap.size = G at *
      have hr := range_a (rangeC b0)
      have hlt := b0.lt
      have HB := Lib.hid b0
      clear b0
      go_wp2_with (refine wpList_load_mid rfl 23 _ rfl G 0 rfl (cellsOf c.a) _ hr und16 rfl (by rw [cellsOf_length, hc]; exact info16) ?_)
      refine (rfour_any c.a hc _).mono ?_
      rintro e w2 ⟨rfl, hb2⟩
      rw [HF.out]
      have b2 := HB.out.below hb2 hlt
      have hn2 := C_cell16 b2 hc
      have B2 := Lib.hid b2
      have hlt2 := b2.lt
      have HL2 := Lib.hid (hbel.trans (hb2.mono (by have := hbel.size; omega)))
      clear hb2 hr hbel b2 HB
      go_wp2_with fail
      clear hn2
      have HA := Lib.hid (rangeC (w := w2.drew) B2.out)
      refine wp_region_held_drew (S := fun w' => w'.rangeAt G 0 (cL c)) (by kernel_rfl) HA.out (fun h0 => ?_)
      refine hd_take 0 (some 22) (.pointer (some ⟨G, 0, none⟩)) rfl rfl (by kernel_rfl) (by kernel_rfl) (by kernel_rfl) (fun _ _ _ h => h) (Or.inl ⟨by rfl, fun w hw => by go_simp <;> omega⟩) h0 ?_
      simp only [Act.put, List.setIfInBounds_toArray, List.set_cons_zero, List.set_cons_succ]
      refine hd_take 1 (some 23) (.agg (cA c.a)) rfl rfl (by kernel_rfl) (by kernel_rfl) (by kernel_rfl) (fun _ _ _ h => h) (yieldsIf_load_mid (by rfl) _ _ rfl G 0 rfl (cellsOf c.a) _ (fun _ h => range_a h) und16 rfl hi) h0 ?_
      simp only [Act.put, List.setIfInBounds_toArray, List.set_cons_zero, List.set_cons_succ]
      refine hd_take 4 (some 26) (.pointer (some ⟨G, 16, none⟩)) rfl rfl (by kernel_rfl) (by kernel_rfl) (by kernel_rfl) (fun _ _ _ h => h) (Or.inl ⟨by rfl, fun w hw => by go_simp <;> omega⟩) h0 ?_
      simp only [Act.put, List.setIfInBounds_toArray, List.set_cons_zero, List.set_cons_succ]
      refine hd_take 5 (some 27) (.int .i64 c.n) rfl rfl (by kernel_rfl) (by kernel_rfl) (by kernel_rfl) (fun _ _ _ h => h) (Or.inl ⟨by rfl, fun w hw => by have h16 := range_n hw hc; go_simp⟩) h0 ?_
      simp only [Act.put, List.setIfInBounds_toArray, List.set_cons_zero, List.set_cons_succ]
      refine wpAnyH_ready (rs := [2]) (by kernel_rfl) (by simp) (AllReadyH.cons rfl (fun K hK => ?_) AllReadyH.nil)
      go_simp
      go_wp2_with (go_at_call 35; refine (HP.out _).mono ?_; rintro e w3 ⟨rfl, hb3⟩; have HB3 := Lib.hid hb3; have b3 : Blk w3 G _ _ := Blk.below (w := w2.drew) B2.out hb3 hlt2; have HC := Lib.hid (rangeC b3); clear b3 hb3)
      refine hK.out _ _ HC.out (fun h2 => ?_)
      clear hK K
      refine hd_take 3 (some 25) (.string (s1 ++ ⟨#[47]⟩)) rfl rfl (by kernel_rfl) (by kernel_rfl) (by kernel_rfl) (fun _ _ _ h => h) (Or.inl ⟨by rfl, fun w hw => by go_simp <;> omega⟩) h2 ?_
      simp only [Act.put, List.setIfInBounds_toArray, List.set_cons_zero, List.set_cons_succ]
      refine wpAnyH_ready (rs := [6]) (by kernel_rfl) (by simp) (AllReadyH.cons rfl (fun K hK => ?_) AllReadyH.nil)
      go_simp
      go_wp2_with (go_at_call 36; refine (HTx.out _).mono ?_; rintro e w4 ⟨rfl, rfl⟩)
      refine hK.out _ _ HC.out (fun h3 => ?_)
      clear hK K
      refine hd_take 7 (some 29) (.string (s1 ++ ⟨#[47]⟩ ++ s2)) rfl rfl (by kernel_rfl) (by kernel_rfl) (by kernel_rfl) (fun _ _ _ h => h) (Or.inl ⟨by rfl, fun w hw => by go_simp <;> omega⟩) h3 ?_
      simp only [Act.put, List.setIfInBounds_toArray, List.set_cons_zero, List.set_cons_succ]
      refine hd_take 8 (some 2) (.string (s1 ++ ⟨#[47]⟩ ++ s2)) rfl rfl (by kernel_rfl) (by kernel_rfl) (by kernel_rfl) (fun _ _ _ h => h) (Or.inl ⟨by rfl, fun w hw => by go_simp <;> omega⟩) h3 ?_
      simp only [Act.put, List.setIfInBounds_toArray, List.set_cons_zero, List.set_cons_succ]
      refine wpAnyH_done (by kernel_rfl) ?_ _
      go_wp2_with fail
      go_ret
      refine ⟨by rw [hm.out]; rfl, ?_⟩
      rw [hG]
      exact HL2.out.trans ((Below.refl _ _).drew.trans (HB3.out.mono (by show G ≤ w2.heap.size; omega)))
  | false =>
    have HF := Lib.hid hf
    have hm := hfin (c.n) (by rw [bitsI, if_neg (fun h => by rw [hf] at h; cases h.1)])
    have hil := Lib.itoa_length_le (c.n) (by omega) (by omega)
    have HTx := Lib.hid (fun w => HT4.out (c.n) (by omega) (by omega) w)
    have hs2 : (str (Lib.itoa (c.n))).size ≤ 21 := by rw [str_size]; exact hil
    have hwm : IntKind.i64.wrap (c.n) = c.n := IntWalk.i64_in _ (by omega)
    clear hf hfin HT4 hil
    generalize str (Lib.itoa (c.n)) = s2 at *
    have hs12 : (s1 ++ (⟨#[47]⟩ : ByteArray)).size ≤ 65 := by rw [ByteArray.size_append]; show s1.size + 1 ≤ 65; omega
    go_enter Tryz.func14, Tryz.ntmps14
    go_upto_region 1 with fail
    have b0 := Blk.new w 25 c.cells
    have hbel : Below w.heap.size w (w.alloc (.cells c.cells 25)) := (Below.refl _ _).alloc (Nat.le_refl _) _
    generalize w.alloc (.cells c.cells 25) = w1 at *
    generalize hG : w.heap.size = G at *
    have hr := range_a (rangeC b0)
    have hlt := b0.lt
    have HB := Lib.hid b0
    clear b0
    go_wp2_with (refine wpList_load_mid rfl 23 _ rfl G 0 rfl (cellsOf c.a) _ hr und16 rfl (by rw [cellsOf_length, hc]; exact info16) ?_)
    refine (rfour_any c.a hc _).mono ?_
    rintro e w2 ⟨rfl, hb2⟩
    rw [HF.out]
    have b2 := HB.out.below hb2 hlt
    have hn2 := C_cell16 b2 hc
    have B2 := Lib.hid b2
    have hlt2 := b2.lt
    have HL2 := Lib.hid (hbel.trans (hb2.mono (by have := hbel.size; omega)))
    clear hb2 hr hbel b2 HB
    go_wp2_with fail
    clear hn2
    have HA := Lib.hid (rangeC (w := w2.drew) B2.out)
    refine wp_region_held_drew (S := fun w' => w'.rangeAt G 0 (cL c)) (by kernel_rfl) HA.out (fun h0 => ?_)
    refine hd_take 0 (some 22) (.pointer (some ⟨G, 0, none⟩)) rfl rfl (by kernel_rfl) (by kernel_rfl) (by kernel_rfl) (fun _ _ _ h => h) (Or.inl ⟨by rfl, fun w hw => by go_simp <;> omega⟩) h0 ?_
    simp only [Act.put, List.setIfInBounds_toArray, List.set_cons_zero, List.set_cons_succ]
    refine hd_take 1 (some 23) (.agg (cA c.a)) rfl rfl (by kernel_rfl) (by kernel_rfl) (by kernel_rfl) (fun _ _ _ h => h) (yieldsIf_load_mid (by rfl) _ _ rfl G 0 rfl (cellsOf c.a) _ (fun _ h => range_a h) und16 rfl hi) h0 ?_
    simp only [Act.put, List.setIfInBounds_toArray, List.set_cons_zero, List.set_cons_succ]
    refine hd_take 4 (some 26) (.pointer (some ⟨G, 16, none⟩)) rfl rfl (by kernel_rfl) (by kernel_rfl) (by kernel_rfl) (fun _ _ _ h => h) (Or.inl ⟨by rfl, fun w hw => by go_simp <;> omega⟩) h0 ?_
    simp only [Act.put, List.setIfInBounds_toArray, List.set_cons_zero, List.set_cons_succ]
    refine hd_take 5 (some 27) (.int .i64 c.n) rfl rfl (by kernel_rfl) (by kernel_rfl) (by kernel_rfl) (fun _ _ _ h => h) (Or.inl ⟨by rfl, fun w hw => by have h16 := range_n hw hc; go_simp⟩) h0 ?_
    simp only [Act.put, List.setIfInBounds_toArray, List.set_cons_zero, List.set_cons_succ]
    refine wpAnyH_ready (rs := [2]) (by kernel_rfl) (by simp) (AllReadyH.cons rfl (fun K hK => ?_) AllReadyH.nil)
    go_simp
    go_wp2_with (go_at_call 35; refine (HP.out _).mono ?_; rintro e w3 ⟨rfl, hb3⟩; have HB3 := Lib.hid hb3; have b3 : Blk w3 G _ _ := Blk.below (w := w2.drew) B2.out hb3 hlt2; have HC := Lib.hid (rangeC b3); clear b3 hb3)
    refine hK.out _ _ HC.out (fun h2 => ?_)
    clear hK K
    refine hd_take 3 (some 25) (.string (s1 ++ ⟨#[47]⟩)) rfl rfl (by kernel_rfl) (by kernel_rfl) (by kernel_rfl) (fun _ _ _ h => h) (Or.inl ⟨by rfl, fun w hw => by go_simp <;> omega⟩) h2 ?_
    simp only [Act.put, List.setIfInBounds_toArray, List.set_cons_zero, List.set_cons_succ]
    refine wpAnyH_ready (rs := [6]) (by kernel_rfl) (by simp) (AllReadyH.cons rfl (fun K hK => ?_) AllReadyH.nil)
    go_simp
    go_wp2_with (go_at_call 36; refine (HTx.out _).mono ?_; rintro e w4 ⟨rfl, rfl⟩)
    refine hK.out _ _ HC.out (fun h3 => ?_)
    clear hK K
    refine hd_take 7 (some 29) (.string (s1 ++ ⟨#[47]⟩ ++ s2)) rfl rfl (by kernel_rfl) (by kernel_rfl) (by kernel_rfl) (fun _ _ _ h => h) (Or.inl ⟨by rfl, fun w hw => by go_simp <;> omega⟩) h3 ?_
    simp only [Act.put, List.setIfInBounds_toArray, List.set_cons_zero, List.set_cons_succ]
    refine hd_take 8 (some 2) (.string (s1 ++ ⟨#[47]⟩ ++ s2)) rfl rfl (by kernel_rfl) (by kernel_rfl) (by kernel_rfl) (fun _ _ _ h => h) (Or.inl ⟨by rfl, fun w hw => by go_simp <;> omega⟩) h3 ?_
    simp only [Act.put, List.setIfInBounds_toArray, List.set_cons_zero, List.set_cons_succ]
    refine wpAnyH_done (by kernel_rfl) ?_ _
    go_wp2_with fail
    go_ret
    refine ⟨by rw [hm.out]; rfl, ?_⟩
    rw [hG]
    exact HL2.out.trans ((Below.refl _ _).drew.trans (HB3.out.mono (by show G ≤ w2.heap.size; omega)))
end Go.Proofs.YtialcnioeeikpaaGreatDoor.Ad
