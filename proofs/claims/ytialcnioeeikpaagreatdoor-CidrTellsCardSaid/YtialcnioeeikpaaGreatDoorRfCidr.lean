/-
  Contracts of hagioscoperef04's Of, Right and Has.
-/
import Derived.Test.YtialcnioeeikpaaGreatDoorRfMask
namespace Go.Proofs.YtialcnioeeikpaaGreatDoor.Ad
open Go.RowKit Go.Proofs.YtialcnioeeikpaaGreatDoor.Wd

theorem rofc_any (a : List UInt8) (ha : a.length = 16) (n : Int) (w : World) :
    Calls Tryz.prog 8 #[.agg (cA a), .int .i64 n] w fun e w' => e = .returned (.agg (ofS a n).cells) ∧ Below w.heap.size w w' := by
  obtain ⟨M1, hM1⟩ : ∃ M : Int, M = if (128 : Int) < n then 128 else n := ⟨_, rfl⟩
  have HM1 := Lib.hid hM1
  have HM2 := Lib.hid (bit_minmax n M1 hM1)
  have HS := Lib.hid (bitN_self n)
  have hz := ofS_len a n
  rw [ha] at hz
  clear hM1
  go_enter Tryz.func8, Tryz.ntmps8
  have b0 : Blk ((w.alloc (.cells (cA a) 23)).alloc (.cells (C.cells ⟨List.replicate 16 0, 0⟩) 25)) w.heap.size 23 (cA a) := (Blk.new _ _ _).alloc _
  have b1 : Blk ((w.alloc (.cells (cA a) 23)).alloc (.cells (C.cells ⟨List.replicate 16 0, 0⟩) 25)) (w.heap.size + 1) 25 (C.cells ⟨List.replicate 16 0, 0⟩) := blk_at _ _ _ _ _ (by rw [alloc_size]) rfl
  have hbel : Below w.heap.size w ((w.alloc (.cells (cA a) 23)).alloc (.cells (C.cells ⟨List.replicate 16 0, 0⟩) 25)) := ((Below.refl _ _).alloc (Nat.le_refl _) _).alloc (by simp) _
  go_wp2_with (first
    | (with_reducible refine wpList_min2 (some 7) rfl rfl _ _ _ rfl n 128 M1 rfl rfl HM1.out ?_)
    | (with_reducible refine wpList_max2 (some 8) rfl rfl _ _ _ rfl 0 M1 (bitN n : Int) rfl rfl HM2.out ?_)
    | (refine go_ld 23 b0 und16 rfl info16 (by rw [cA_size, ha]) rfl rfl rfl ?_))
  refine (rmask_any a ha _ _).mono ?_
  rintro e w2 ⟨rfl, hb2⟩
  rw [HS.out]
  have b1' := b1.below hb2 b1.lt
  have hbel2 := hbel.trans (hb2.mono hbel.size)
  clear b0 b1 hbel hb2
  have hbuilt : C.cells ⟨maskS a (bitN n), (bitN n : Int)⟩ = (ofS a n).cells := rfl
  go_wp2_with (first
    | (refine go_bd17 (by exact hz) rfl rfl rfl rfl ?_; rw [hbuilt])
    | (refine go_st 25 b1' info17 (C_size _ rfl) (C_size _ hz) (C_one _) rfl rfl rfl rfl ?_))
  exact ret_row Tryz.results8 b1' und17 rfl info17 (C_size _ hz) rfl ⟨rfl, setRow_below hbel2 b1' (by omega) _⟩ rfl

set_option linter.unusedSimpArgs false in
set_option maxRecDepth 100000 in
set_option maxHeartbeats 2000000 in
theorem rright_any (c : C) (hc : c.a.length = 16) (w : World) :
    Calls Tryz.prog 10 #[.agg c.cells] w fun e w' => e = .returned (.bool (rightS c)) ∧ Below w.heap.size w w' := by
  have HR := Lib.hid (show (c == ofS c.a c.n) = rightS c from rfl)
  have hz := ofS_len c.a c.n
  rw [hc] at hz
  have heq := eql17 c (ofS c.a c.n) hc hz
  have hi : (Tryz.prog.info? 23).map (·.size) = some (cellsOf c.a).length := by rw [cellsOf_length, hc]; exact info16
  have hi17 : (Tryz.prog.info? 25).map (·.size) = some (cL c).length := by rw [cL_len c hc]; exact info17
  go_enter Tryz.func10, Tryz.ntmps10
  go_wp2_with fail
  have b0 := Blk.new w 25 c.cells
  have hbel : Below w.heap.size w (w.alloc (.cells c.cells 25)) := (Below.refl _ _).alloc (Nat.le_refl _) _
  have hlt := b0.lt
  generalize w.alloc (.cells c.cells 25) = w1 at *
  generalize hG : w.heap.size = G at *
  have HB := Lib.hid b0
  have HL := Lib.hid hbel
  have HA := Lib.hid (rangeC (w := w1.drew) b0)
  clear b0 hbel
  refine wp_region_held_drew (S := fun w' => w'.rangeAt G 0 (cL c)) (by kernel_rfl) HA.out (fun h0 => ?_)
  refine hd_take 0 (some 3) (.agg c.cells) rfl rfl (by kernel_rfl) (by kernel_rfl) (by kernel_rfl) (fun _ _ _ h => h) (yieldsIf_load_mid (by rfl) _ _ rfl G 0 rfl (cL c) _ (fun _ h => h) und17 rfl hi17) h0 ?_
  simp only [Act.put, List.setIfInBounds_toArray, List.set_cons_zero, List.set_cons_succ]
  refine hd_take 1 (some 4) (.pointer (some ⟨G, 0, none⟩)) rfl rfl (by kernel_rfl) (by kernel_rfl) (by kernel_rfl) (fun _ _ _ h => h) (Or.inl ⟨by rfl, fun w hw => by go_simp⟩) h0 ?_
  simp only [Act.put, List.setIfInBounds_toArray, List.set_cons_zero, List.set_cons_succ]
  refine hd_take 2 (some 5) (.agg (cA c.a)) rfl rfl (by kernel_rfl) (by kernel_rfl) (by kernel_rfl) (fun _ _ _ h => h) (yieldsIf_load_mid (by rfl) _ _ rfl G 0 rfl (cellsOf c.a) _ (fun _ h => range_a h) und16 rfl hi) h0 ?_
  simp only [Act.put, List.setIfInBounds_toArray, List.set_cons_zero, List.set_cons_succ]
  refine hd_take 3 (some 6) (.pointer (some ⟨G, 16, none⟩)) rfl rfl (by kernel_rfl) (by kernel_rfl) (by kernel_rfl) (fun _ _ _ h => h) (Or.inl ⟨by rfl, fun w hw => by go_simp⟩) h0 ?_
  simp only [Act.put, List.setIfInBounds_toArray, List.set_cons_zero, List.set_cons_succ]
  refine hd_take 4 (some 7) (.int .i64 c.n) rfl rfl (by kernel_rfl) (by kernel_rfl) (by kernel_rfl) (fun _ _ _ h => h) (Or.inl ⟨by rfl, fun w hw => by have h16 := range_n hw hc; go_simp⟩) h0 ?_
  simp only [Act.put, List.setIfInBounds_toArray, List.set_cons_zero, List.set_cons_succ]
  refine wpAnyH_ready (rs := [5]) (by kernel_rfl) (by simp) (AllReadyH.cons rfl (fun K hK => ?_) AllReadyH.nil)
  go_simp
  go_wp2_with (go_at_call 8; refine (rofc_any c.a hc c.n _).mono ?_; rintro e w2 ⟨rfl, hb2⟩; have HB2 := Lib.hid hb2; have b2 : Blk w2 G _ _ := Blk.below (w := w1.drew) HB.out hb2 hlt; have HC := Lib.hid (rangeC b2); clear b2 hb2)
  refine hK.out _ _ HC.out (fun h2 => ?_)
  clear hK K
  refine hd_take 6 (some 9) (.bool (c == ofS c.a c.n)) rfl rfl (by kernel_rfl) (by kernel_rfl) (by kernel_rfl) (fun _ _ _ h => h) (Or.inl ⟨by rfl, fun w hw => by go_simp⟩) h2 ?_
  simp only [Act.put, List.setIfInBounds_toArray, List.set_cons_zero, List.set_cons_succ]
  refine hd_take 7 (some 2) (.bool (c == ofS c.a c.n)) rfl rfl (by kernel_rfl) (by kernel_rfl) (by kernel_rfl) (fun _ _ _ h => h) (Or.inl ⟨by rfl, fun w hw => by go_simp⟩) h2 ?_
  simp only [Act.put, List.setIfInBounds_toArray, List.set_cons_zero, List.set_cons_succ]
  refine wpAnyH_done (by kernel_rfl) ?_ _
  go_wp2_with fail
  go_ret
  rw [HR.out]
  refine ⟨rfl, ?_⟩
  rw [hG]
  exact HL.out.trans ((Below.refl _ _).drew.trans (HB2.out.mono (by show G ≤ w1.heap.size; omega)))

set_option linter.unusedSimpArgs false in
set_option maxRecDepth 100000 in
set_option maxHeartbeats 4000000 in
theorem rhas_any (c : C) (hc : c.a.length = 16) (a : List UInt8) (ha : a.length = 16) (w : World) :
    Calls Tryz.prog 12 #[.agg c.cells, .agg (cA a)] w fun e w' => e = .returned (.bool (hasS c a)) ∧ Below w.heap.size w w' := by
  have hz : (maskS a (bitN c.n)).length = 16 := by rw [maskS_length, ha]
  have heq := eql16 (maskS a (bitN c.n)) c.a hz hc
  have hi : (Tryz.prog.info? 23).map (·.size) = some (cellsOf c.a).length := by rw [cellsOf_length, hc]; exact info16
  have hi2 : (Tryz.prog.info? 23).map (·.size) = some (cellsOf a).length := by rw [cellsOf_length, ha]; exact info16
  have hi17 : (Tryz.prog.info? 25).map (·.size) = some (cL c).length := by rw [cL_len c hc]; exact info17
  cases hr0 : rightS c with
  | false =>
    have HR := Lib.hid (show hasS c a = false by rw [hasS, hr0]; rfl)
    have hr := Lib.hid hr0
    clear hr0 heq
    go_enter Tryz.func12, Tryz.ntmps12
    go_wp2_with fail
    have b0 := (Blk.new w 25 c.cells).alloc (.cells (cA a) 23)
    have b1 : Blk ((w.alloc (.cells c.cells 25)).alloc (.cells (cA a) 23)) (w.heap.size + 1) 23 (cA a) := blk_at _ _ _ _ _ (by rw [alloc_size]) rfl
    have hbel : Below w.heap.size w ((w.alloc (.cells c.cells 25)).alloc (.cells (cA a) 23)) := ((Below.refl _ _).alloc (Nat.le_refl _) _).alloc (by simp) _
    have hlt := b0.lt
    have hlt1 := b1.lt
    generalize ((w.alloc (.cells c.cells 25)).alloc (.cells (cA a) 23)) = w1 at *
    generalize hG : w.heap.size = G at *
    have HB := Lib.hid b0
    have HB1 := Lib.hid b1
    have HL := Lib.hid hbel
    have HA := Lib.hid (And.intro (rangeC (w := w1.drew) b0) (rangeA (w := w1.drew) b1))
    clear b0 b1 hbel
    refine wp_region_held_drew (S := fun w' => w'.rangeAt G 0 (cL c) ∧ w'.rangeAt (G + 1) 0 (cellsOf a)) (by kernel_rfl) HA.out (fun h0 => ?_)
    refine hd_take 0 (some 5) (.agg c.cells) rfl rfl (by kernel_rfl) (by kernel_rfl) (by kernel_rfl) (fun _ _ _ h => h) (yieldsIf_load_mid (by rfl) _ _ rfl G 0 rfl (cL c) _ (fun _ h => h.1) und17 rfl hi17) h0 ?_
    simp only [Act.put, List.setIfInBounds_toArray, List.set_cons_zero, List.set_cons_succ]
    refine wpAnyH_ready (rs := [1]) (by kernel_rfl) (by simp) (AllReadyH.cons rfl (fun K hK => ?_) AllReadyH.nil)
    go_simp
    go_wp2_with (go_at_call 10; refine (rright_any c hc _).mono ?_; rintro e w2 ⟨rfl, hb2⟩; rw [hr.out]; have HB2 := Lib.hid hb2; have b2 : Blk w2 G _ _ := Blk.below (w := w1.drew) HB.out hb2 hlt; have b3 : Blk w2 (G + 1) _ _ := Blk.below (w := w1.drew) HB1.out hb2 hlt1; have HC := Lib.hid (And.intro (rangeC b2) (rangeA b3)); clear b2 b3 hb2)
    refine hK.out _ _ HC.out (fun h2 => ?_)
    clear hK K
    refine hd_take 2 (some 7) (.bool false) rfl rfl (by kernel_rfl) (by kernel_rfl) (by kernel_rfl) (fun _ _ _ h => h) (Or.inl ⟨by rfl, fun w hw => by go_simp⟩) h2 ?_
    simp only [Act.put, List.setIfInBounds_toArray, List.set_cons_zero, List.set_cons_succ]
    refine hd_take 3 (some 8) (undef) rfl rfl (by kernel_rfl) (by kernel_rfl) (by kernel_rfl) (fun _ _ _ h => h) (Or.inr ⟨by rfl, rfl⟩) h2 ?_
    simp only [Act.put, List.setIfInBounds_toArray, List.set_cons_zero, List.set_cons_succ]
    refine hd_take 4 (some 9) (undef) rfl rfl (by kernel_rfl) (by kernel_rfl) (by kernel_rfl) (fun _ _ _ h => h) (Or.inr ⟨by rfl, rfl⟩) h2 ?_
    simp only [Act.put, List.setIfInBounds_toArray, List.set_cons_zero, List.set_cons_succ]
    refine hd_take 5 (some 10) (undef) rfl rfl (by kernel_rfl) (by kernel_rfl) (by kernel_rfl) (fun _ _ _ h => h) (Or.inr ⟨by rfl, rfl⟩) h2 ?_
    simp only [Act.put, List.setIfInBounds_toArray, List.set_cons_zero, List.set_cons_succ]
    refine hd_take 6 (some 11) (undef) rfl rfl (by kernel_rfl) (by kernel_rfl) (by kernel_rfl) (fun _ _ _ h => h) (Or.inr ⟨by rfl, rfl⟩) h2 ?_
    simp only [Act.put, List.setIfInBounds_toArray, List.set_cons_zero, List.set_cons_succ]
    refine hd_take 7 (some 12) (undef) rfl rfl (by kernel_rfl) (by kernel_rfl) (by kernel_rfl) (fun _ _ _ h => h) (Or.inr ⟨by rfl, rfl⟩) h2 ?_
    simp only [Act.put, List.setIfInBounds_toArray, List.set_cons_zero, List.set_cons_succ]
    refine hd_take 8 (some 13) (undef) rfl rfl (by kernel_rfl) (by kernel_rfl) (by kernel_rfl) (fun _ _ _ h => h) (Or.inr ⟨by rfl, rfl⟩) h2 ?_
    simp only [Act.put, List.setIfInBounds_toArray, List.set_cons_zero, List.set_cons_succ]
    refine hd_take 9 (some 14) (undef) rfl rfl (by kernel_rfl) (by kernel_rfl) (by kernel_rfl) (fun _ _ _ h => h) (Or.inr ⟨by rfl, rfl⟩) h2 ?_
    simp only [Act.put, List.setIfInBounds_toArray, List.set_cons_zero, List.set_cons_succ]
    refine hd_take 10 (some 15) (.bool false) rfl rfl (by kernel_rfl) (by kernel_rfl) (by kernel_rfl) (fun _ _ _ h => h) (Or.inl ⟨by rfl, fun w hw => by go_simp⟩) h2 ?_
    simp only [Act.put, List.setIfInBounds_toArray, List.set_cons_zero, List.set_cons_succ]
    refine hd_take 11 (some 4) (.bool false) rfl rfl (by kernel_rfl) (by kernel_rfl) (by kernel_rfl) (fun _ _ _ h => h) (Or.inl ⟨by rfl, fun w hw => by go_simp⟩) h2 ?_
    simp only [Act.put, List.setIfInBounds_toArray, List.set_cons_zero, List.set_cons_succ]
    refine wpAnyH_done (by kernel_rfl) ?_ _
    go_wp2_with fail
    go_ret
    rw [HR.out]
    refine ⟨rfl, ?_⟩
    rw [hG]
    exact HL.out.trans ((Below.refl _ _).drew.trans (HB2.out.mono (by show G ≤ w1.heap.size; omega)))
  | true =>
    have HR := Lib.hid (show hasS c a = (maskS a (bitN c.n) == c.a) by rw [hasS, hr0, Bool.true_and, Bool.eq_iff_iff, beq_iff_eq, beq_iff_eq]; exact eq_comm)
    have hr := Lib.hid hr0
    clear hr0
    go_enter Tryz.func12, Tryz.ntmps12
    go_wp2_with fail
    have b0 := (Blk.new w 25 c.cells).alloc (.cells (cA a) 23)
    have b1 : Blk ((w.alloc (.cells c.cells 25)).alloc (.cells (cA a) 23)) (w.heap.size + 1) 23 (cA a) := blk_at _ _ _ _ _ (by rw [alloc_size]) rfl
    have hbel : Below w.heap.size w ((w.alloc (.cells c.cells 25)).alloc (.cells (cA a) 23)) := ((Below.refl _ _).alloc (Nat.le_refl _) _).alloc (by simp) _
    have hlt := b0.lt
    have hlt1 := b1.lt
    generalize ((w.alloc (.cells c.cells 25)).alloc (.cells (cA a) 23)) = w1 at *
    generalize hG : w.heap.size = G at *
    have HB := Lib.hid b0
    have HB1 := Lib.hid b1
    have HL := Lib.hid hbel
    have HA := Lib.hid (And.intro (rangeC (w := w1.drew) b0) (rangeA (w := w1.drew) b1))
    clear b0 b1 hbel
    refine wp_region_held_drew (S := fun w' => w'.rangeAt G 0 (cL c) ∧ w'.rangeAt (G + 1) 0 (cellsOf a)) (by kernel_rfl) HA.out (fun h0 => ?_)
    refine hd_take 0 (some 5) (.agg c.cells) rfl rfl (by kernel_rfl) (by kernel_rfl) (by kernel_rfl) (fun _ _ _ h => h) (yieldsIf_load_mid (by rfl) _ _ rfl G 0 rfl (cL c) _ (fun _ h => h.1) und17 rfl hi17) h0 ?_
    simp only [Act.put, List.setIfInBounds_toArray, List.set_cons_zero, List.set_cons_succ]
    refine wpAnyH_ready (rs := [1]) (by kernel_rfl) (by simp) (AllReadyH.cons rfl (fun K hK => ?_) AllReadyH.nil)
    go_simp
    go_wp2_with (go_at_call 10; refine (rright_any c hc _).mono ?_; rintro e w2 ⟨rfl, hb2⟩; rw [hr.out]; have HB2 := Lib.hid hb2; have b2 : Blk w2 G _ _ := Blk.below (w := w1.drew) HB.out hb2 hlt; have b3 : Blk w2 (G + 1) _ _ := Blk.below (w := w1.drew) HB1.out hb2 hlt1; have HC := Lib.hid (And.intro (rangeC b2) (rangeA b3)); clear b2 b3 hb2)
    refine hK.out _ _ HC.out (fun h2 => ?_)
    clear hK K
    refine hd_take 2 (some 7) (.bool true) rfl rfl (by kernel_rfl) (by kernel_rfl) (by kernel_rfl) (fun _ _ _ h => h) (Or.inl ⟨by rfl, fun w hw => by go_simp⟩) h2 ?_
    simp only [Act.put, List.setIfInBounds_toArray, List.set_cons_zero, List.set_cons_succ]
    refine hd_take 3 (some 8) (.agg (cA a)) rfl rfl (by kernel_rfl) (by kernel_rfl) (by kernel_rfl) (fun _ _ _ h => h) (yieldsIf_load_mid (by rfl) _ _ rfl (G + 1) 0 rfl (cellsOf a) _ (fun _ h => h.2) und16 rfl hi2) h2 ?_
    simp only [Act.put, List.setIfInBounds_toArray, List.set_cons_zero, List.set_cons_succ]
    refine hd_take 4 (some 9) (.pointer (some ⟨G, 16, none⟩)) rfl rfl (by kernel_rfl) (by kernel_rfl) (by kernel_rfl) (fun _ _ _ h => h) (Or.inl ⟨by rfl, fun w hw => by go_simp⟩) h2 ?_
    simp only [Act.put, List.setIfInBounds_toArray, List.set_cons_zero, List.set_cons_succ]
    refine hd_take 5 (some 10) (.int .i64 c.n) rfl rfl (by kernel_rfl) (by kernel_rfl) (by kernel_rfl) (fun _ _ _ h => h) (Or.inl ⟨by rfl, fun w hw => by have h16 := range_n hw.1 hc; go_simp⟩) h2 ?_
    simp only [Act.put, List.setIfInBounds_toArray, List.set_cons_zero, List.set_cons_succ]
    refine hd_take 7 (some 12) (.pointer (some ⟨G, 0, none⟩)) rfl rfl (by kernel_rfl) (by kernel_rfl) (by kernel_rfl) (fun _ _ _ h => h) (Or.inl ⟨by rfl, fun w hw => by go_simp⟩) h2 ?_
    simp only [Act.put, List.setIfInBounds_toArray, List.set_cons_zero, List.set_cons_succ]
    refine hd_take 8 (some 13) (.agg (cA c.a)) rfl rfl (by kernel_rfl) (by kernel_rfl) (by kernel_rfl) (fun _ _ _ h => h) (yieldsIf_load_mid (by rfl) _ _ rfl G 0 rfl (cellsOf c.a) _ (fun _ h => range_a h.1) und16 rfl hi) h2 ?_
    simp only [Act.put, List.setIfInBounds_toArray, List.set_cons_zero, List.set_cons_succ]
    refine wpAnyH_ready (rs := [6]) (by kernel_rfl) (by simp) (AllReadyH.cons rfl (fun K hK => ?_) AllReadyH.nil)
    go_simp
    go_wp2_with (go_at_call 30; refine (rmask_any a ha c.n _).mono ?_; rintro e w3 ⟨rfl, hb4⟩; have HB4 := Lib.hid (HB2.out.trans (hb4.mono HB2.out.size)); have b4 : Blk w3 G _ _ := Blk.below (w := w1.drew) HB.out HB4.out hlt; have b5 : Blk w3 (G + 1) _ _ := Blk.below (w := w1.drew) HB1.out HB4.out hlt1; have HD := Lib.hid (And.intro (rangeC b4) (rangeA b5)); clear b4 b5 hb4)
    refine hK.out _ _ HD.out (fun h3 => ?_)
    clear hK K
    refine hd_take 9 (some 14) (.bool (maskS a (bitN c.n) == c.a)) rfl rfl (by kernel_rfl) (by kernel_rfl) (by kernel_rfl) (fun _ _ _ h => h) (Or.inl ⟨by rfl, fun w hw => by go_simp⟩) h3 ?_
    simp only [Act.put, List.setIfInBounds_toArray, List.set_cons_zero, List.set_cons_succ]
    refine hd_take 10 (some 15) (.bool (maskS a (bitN c.n) == c.a)) rfl rfl (by kernel_rfl) (by kernel_rfl) (by kernel_rfl) (fun _ _ _ h => h) (Or.inl ⟨by rfl, fun w hw => by go_simp⟩) h3 ?_
    simp only [Act.put, List.setIfInBounds_toArray, List.set_cons_zero, List.set_cons_succ]
    refine hd_take 11 (some 4) (.bool (maskS a (bitN c.n) == c.a)) rfl rfl (by kernel_rfl) (by kernel_rfl) (by kernel_rfl) (fun _ _ _ h => h) (Or.inl ⟨by rfl, fun w hw => by go_simp⟩) h3 ?_
    simp only [Act.put, List.setIfInBounds_toArray, List.set_cons_zero, List.set_cons_succ]
    refine wpAnyH_done (by kernel_rfl) ?_ _
    go_wp2_with fail
    go_ret
    rw [HR.out]
    refine ⟨rfl, ?_⟩
    rw [hG]
    exact HL.out.trans ((Below.refl _ _).drew.trans (HB4.out.mono (by show G ≤ w1.heap.size; omega)))
end Go.Proofs.YtialcnioeeikpaaGreatDoor.Ad
