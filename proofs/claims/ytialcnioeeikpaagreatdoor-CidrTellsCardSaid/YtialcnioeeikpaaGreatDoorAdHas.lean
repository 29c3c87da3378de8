/-
  Contracts of package cidr's Right and Has over this seat's translation.
-/
import Derived.Test.YtialcnioeeikpaaGreatDoorAdFour2
namespace Go.Proofs.YtialcnioeeikpaaGreatDoor.Ad
open Go.RowKit Go.Proofs.YtialcnioeeikpaaGreatDoor.Wd

abbrev cL (c : C) : List Value := cellsOf c.a ++ [Value.int .i64 c.n]
theorem cL_len (c : C) (h : c.a.length = 16) : (cL c).length = 17 := by simp [cellsOf_length, h]
theorem rangeC {w : World} {g t : Nat} {c : C} (h : Blk w g t c.cells) : w.rangeAt g 0 (cL c) := fun j v hv => by
  rw [Nat.zero_add, h.cell]
  simpa [C.cells] using hv
theorem range_a {w : World} {g : Nat} {c : C} (h : w.rangeAt g 0 (cL c)) : w.rangeAt g 0 (cellsOf c.a) := fun j v hv =>
  h j v (by rw [List.getElem?_append_left (List.getElem?_eq_some_iff.1 hv).1]; exact hv)
theorem range_n {w : World} {g : Nat} {c : C} (h : w.rangeAt g 0 (cL c)) (hc : c.a.length = 16) : w.cell? ⟨g, 16, none⟩ = some (.int .i64 c.n) := by
  have := h 16 (.int .i64 c.n) (by rw [List.getElem?_append_right (by rw [cellsOf_length, hc]; omega), cellsOf_length, hc]; rfl)
  simpa using this

set_option linter.unusedSimpArgs false in
set_option maxRecDepth 100000 in
set_option maxHeartbeats 2000000 in
theorem right_any (c : C) (hc : c.a.length = 16) (w : World) :
    Calls Tryz.prog 9 #[.agg c.cells] w fun e w' => e = .returned (.bool (rightS c)) ∧ Below w.heap.size w w' := by
  have HR := Lib.hid (show (c == ofS c.a c.n) = rightS c from rfl)
  have hz := ofS_len c.a c.n
  rw [hc] at hz
  have heq := eql17 c (ofS c.a c.n) hc hz
  have hi : (Tryz.prog.info? 23).map (·.size) = some (cellsOf c.a).length := by rw [cellsOf_length, hc]; exact info16
  have hi17 : (Tryz.prog.info? 25).map (·.size) = some (cL c).length := by rw [cL_len c hc]; exact info17
  go_enter Tryz.func9, Tryz.ntmps9
  go_wp2_with fail
  have b0 := Blk.new w 25 c.cells
  have hbel : Below w.heap.size w (w.alloc (.cells c.cells 25)) := (Below.refl _ _).alloc (Nat.le_refl _) _
  have hlt := b0.lt
  generalize w.alloc (.cells c.cells 25) = w1 at *
  generalize hG : w.heap.size = G at *
  have HB := Lib.hid b0
  have HL := Lib.hid hbel
  have HA := Lib.hid (rangeC (w := w1.drew) b0)
  clear b0 hbel
  refine wp_region_held_drew (S := fun w' => w'.rangeAt G 0 (cL c)) (by kernel_rfl) HA.out (fun h0 => ?_)
  refine hd_take 0 (some 3) (.agg c.cells) rfl rfl (by kernel_rfl) (by kernel_rfl) (by kernel_rfl) (fun _ _ _ h => h) (yieldsIf_load_mid (by rfl) _ _ rfl G 0 rfl (cL c) _ (fun _ h => h) und17 rfl hi17) h0 ?_
  simp only [Act.put, List.setIfInBounds_toArray, List.set_cons_zero, List.set_cons_succ]
  refine hd_take 1 (some 4) (.pointer (some ⟨G, 0, none⟩)) rfl rfl (by kernel_rfl) (by kernel_rfl) (by kernel_rfl) (fun _ _ _ h => h) (Or.inl ⟨by rfl, fun w hw => by go_simp⟩) h0 ?_
  simp only [Act.put, List.setIfInBounds_toArray, List.set_cons_zero, List.set_cons_succ]
  refine hd_take 2 (some 5) (.agg (cA c.a)) rfl rfl (by kernel_rfl) (by kernel_rfl) (by kernel_rfl) (fun _ _ _ h => h) (yieldsIf_load_mid (by rfl) _ _ rfl G 0 rfl (cellsOf c.a) _ (fun _ h => range_a h) und16 rfl hi) h0 ?_
  simp only [Act.put, List.setIfInBounds_toArray, List.set_cons_zero, List.set_cons_succ]
  refine hd_take 3 (some 6) (.pointer (some ⟨G, 16, none⟩)) rfl rfl (by kernel_rfl) (by kernel_rfl) (by kernel_rfl) (fun _ _ _ h => h) (Or.inl ⟨by rfl, fun w hw => by go_simp⟩) h0 ?_
  simp only [Act.put, List.setIfInBounds_toArray, List.set_cons_zero, List.set_cons_succ]
  refine hd_take 4 (some 7) (.int .i64 c.n) rfl rfl (by kernel_rfl) (by kernel_rfl) (by kernel_rfl) (fun _ _ _ h => h) (Or.inl ⟨by rfl, fun w hw => by have h16 := range_n hw hc; go_simp⟩) h0 ?_
  simp only [Act.put, List.setIfInBounds_toArray, List.set_cons_zero, List.set_cons_succ]
  refine wpAnyH_ready (rs := [5]) (by kernel_rfl) (by simp) (AllReadyH.cons rfl (fun K hK => ?_) AllReadyH.nil)
  go_simp
  go_wp2_with (go_at_call 7; refine (of_any c.a hc c.n _).mono ?_; rintro e w2 ⟨rfl, hb2⟩; have HB2 := Lib.hid hb2; have b2 : Blk w2 G _ _ := Blk.below (w := w1.drew) HB.out hb2 hlt; have HC := Lib.hid (rangeC b2); clear b2 hb2)
  refine hK.out _ _ HC.out (fun h2 => ?_)
  clear hK K
  refine hd_take 6 (some 9) (.bool (c == ofS c.a c.n)) rfl rfl (by kernel_rfl) (by kernel_rfl) (by kernel_rfl) (fun _ _ _ h => h) (Or.inl ⟨by rfl, fun w hw => by go_simp⟩) h2 ?_
  simp only [Act.put, List.setIfInBounds_toArray, List.set_cons_zero, List.set_cons_succ]
  refine hd_take 7 (some 2) (.bool (c == ofS c.a c.n)) rfl rfl (by kernel_rfl) (by kernel_rfl) (by kernel_rfl) (fun _ _ _ h => h) (Or.inl ⟨by rfl, fun w hw => by go_simp⟩) h2 ?_
  simp only [Act.put, List.setIfInBounds_toArray, List.set_cons_zero, List.set_cons_succ]
  refine wpAnyH_done (by kernel_rfl) ?_ _
  go_wp2_with fail
  go_ret
  rw [HR.out]
  refine ⟨rfl, ?_⟩
  rw [hG]
  exact HL.out.trans ((Below.refl _ _).drew.trans (HB2.out.mono (by show G ≤ w1.heap.size; omega)))

set_option linter.unusedSimpArgs false in
set_option maxRecDepth 100000 in
set_option maxHeartbeats 4000000 in
theorem has_any (c : C) (hc : c.a.length = 16) (a : List UInt8) (ha : a.length = 16) (w : World) :
    Calls Tryz.prog 11 #[.agg c.cells, .agg (cA a)] w fun e w' => e = .returned (.bool (hasS c a)) ∧ Below w.heap.size w w' := by
  have hz : (maskS a (bitN c.n)).length = 16 := by rw [maskS_length, ha]
  have heq := eql16 c.a (maskS a (bitN c.n)) hc hz
  have hi : (Tryz.prog.info? 23).map (·.size) = some (cellsOf c.a).length := by rw [cellsOf_length, hc]; exact info16
  have hi2 : (Tryz.prog.info? 23).map (·.size) = some (cellsOf a).length := by rw [cellsOf_length, ha]; exact info16
  have hi17 : (Tryz.prog.info? 25).map (·.size) = some (cL c).length := by rw [cL_len c hc]; exact info17
  cases hr0 : rightS c with
  | false =>
    have HR := Lib.hid (show hasS c a = false by rw [hasS, hr0]; rfl)
    have hr := Lib.hid hr0
    clear hr0 heq
    go_enter Tryz.func11, Tryz.ntmps11
    go_wp2_with fail
    have b0 := (Blk.new w 25 c.cells).alloc (.cells (cA a) 23)
    have b1 : Blk ((w.alloc (.cells c.cells 25)).alloc (.cells (cA a) 23)) (w.heap.size + 1) 23 (cA a) := blk_at _ _ _ _ _ (by rw [alloc_size]) rfl
    have hbel : Below w.heap.size w ((w.alloc (.cells c.cells 25)).alloc (.cells (cA a) 23)) := ((Below.refl _ _).alloc (Nat.le_refl _) _).alloc (by simp) _
    have hlt := b0.lt
    have hlt1 := b1.lt
    generalize ((w.alloc (.cells c.cells 25)).alloc (.cells (cA a) 23)) = w1 at *
    generalize hG : w.heap.size = G at *
    have HB := Lib.hid b0
    have HB1 := Lib.hid b1
    have HL := Lib.hid hbel
    have HA := Lib.hid (And.intro (rangeC (w := w1.drew) b0) (rangeA (w := w1.drew) b1))
    clear b0 b1 hbel
    refine wp_region_held_drew (S := fun w' => w'.rangeAt G 0 (cL c) ∧ w'.rangeAt (G + 1) 0 (cellsOf a)) (by kernel_rfl) HA.out (fun h0 => ?_)
    refine hd_take 0 (some 5) (.agg c.cells) rfl rfl (by kernel_rfl) (by kernel_rfl) (by kernel_rfl) (fun _ _ _ h => h) (yieldsIf_load_mid (by rfl) _ _ rfl G 0 rfl (cL c) _ (fun _ h => h.1) und17 rfl hi17) h0 ?_
    simp only [Act.put, List.setIfInBounds_toArray, List.set_cons_zero, List.set_cons_succ]
    refine wpAnyH_ready (rs := [1]) (by kernel_rfl) (by simp) (AllReadyH.cons rfl (fun K hK => ?_) AllReadyH.nil)
    go_simp
    go_wp2_with (go_at_call 9; refine (right_any c hc _).mono ?_; rintro e w2 ⟨rfl, hb2⟩; rw [hr.out]; have HB2 := Lib.hid hb2; have b2 : Blk w2 G _ _ := Blk.below (w := w1.drew) HB.out hb2 hlt; have b3 : Blk w2 (G + 1) _ _ := Blk.below (w := w1.drew) HB1.out hb2 hlt1; have HC := Lib.hid (And.intro (rangeC b2) (rangeA b3)); clear b2 b3 hb2)
    refine hK.out _ _ HC.out (fun h2 => ?_)
    clear hK K
    refine hd_take 2 (some 7) (.bool false) rfl rfl (by kernel_rfl) (by kernel_rfl) (by kernel_rfl) (fun _ _ _ h => h) (Or.inl ⟨by rfl, fun w hw => by go_simp⟩) h2 ?_
    simp only [Act.put, List.setIfInBounds_toArray, List.set_cons_zero, List.set_cons_succ]
    refine hd_take 3 (some 8) (undef) rfl rfl (by kernel_rfl) (by kernel_rfl) (by kernel_rfl) (fun _ _ _ h => h) (Or.inr ⟨by rfl, rfl⟩) h2 ?_
    simp only [Act.put, List.setIfInBounds_toArray, List.set_cons_zero, List.set_cons_succ]
    refine hd_take 4 (some 9) (undef) rfl rfl (by kernel_rfl) (by kernel_rfl) (by kernel_rfl) (fun _ _ _ h => h) (Or.inr ⟨by rfl, rfl⟩) h2 ?_
    simp only [Act.put, List.setIfInBounds_toArray, List.set_cons_zero, List.set_cons_succ]
    refine hd_take 5 (some 10) (undef) rfl rfl (by kernel_rfl) (by kernel_rfl) (by kernel_rfl) (fun _ _ _ h => h) (Or.inr ⟨by rfl, rfl⟩) h2 ?_
    simp only [Act.put, List.setIfInBounds_toArray, List.set_cons_zero, List.set_cons_succ]
    refine hd_take 6 (some 11) (undef) rfl rfl (by kernel_rfl) (by kernel_rfl) (by kernel_rfl) (fun _ _ _ h => h) (Or.inr ⟨by rfl, rfl⟩) h2 ?_
    simp only [Act.put, List.setIfInBounds_toArray, List.set_cons_zero, List.set_cons_succ]
    refine hd_take 7 (some 12) (undef) rfl rfl (by kernel_rfl) (by kernel_rfl) (by kernel_rfl) (fun _ _ _ h => h) (Or.inr ⟨by rfl, rfl⟩) h2 ?_
    simp only [Act.put, List.setIfInBounds_toArray, List.set_cons_zero, List.set_cons_succ]
    refine hd_take 8 (some 13) (undef) rfl rfl (by kernel_rfl) (by kernel_rfl) (by kernel_rfl) (fun _ _ _ h => h) (Or.inr ⟨by rfl, rfl⟩) h2 ?_
    simp only [Act.put, List.setIfInBounds_toArray, List.set_cons_zero, List.set_cons_succ]
    refine hd_take 9 (some 14) (undef) rfl rfl (by kernel_rfl) (by kernel_rfl) (by kernel_rfl) (fun _ _ _ h => h) (Or.inr ⟨by rfl, rfl⟩) h2 ?_
    simp only [Act.put, List.setIfInBounds_toArray, List.set_cons_zero, List.set_cons_succ]
    refine hd_take 10 (some 15) (.bool false) rfl rfl (by kernel_rfl) (by kernel_rfl) (by kernel_rfl) (fun _ _ _ h => h) (Or.inl ⟨by rfl, fun w hw => by go_simp⟩) h2 ?_
    simp only [Act.put, List.setIfInBounds_toArray, List.set_cons_zero, List.set_cons_succ]
    refine hd_take 11 (some 4) (.bool false) rfl rfl (by kernel_rfl) (by kernel_rfl) (by kernel_rfl) (fun _ _ _ h => h) (Or.inl ⟨by rfl, fun w hw => by go_simp⟩) h2 ?_
    simp only [Act.put, List.setIfInBounds_toArray, List.set_cons_zero, List.set_cons_succ]
    refine wpAnyH_done (by kernel_rfl) ?_ _
    go_wp2_with fail
    go_ret
    rw [HR.out]
    refine ⟨rfl, ?_⟩
    rw [hG]
    exact HL.out.trans ((Below.refl _ _).drew.trans (HB2.out.mono (by show G ≤ w1.heap.size; omega)))
  | true =>
    have HR := Lib.hid (show hasS c a = (c.a == maskS a (bitN c.n)) by rw [hasS, hr0]; rfl)
    have hr := Lib.hid hr0
    clear hr0
    go_enter Tryz.func11, Tryz.ntmps11
    go_wp2_with fail
    have b0 := (Blk.new w 25 c.cells).alloc (.cells (cA a) 23)
    have b1 : Blk ((w.alloc (.cells c.cells 25)).alloc (.cells (cA a) 23)) (w.heap.size + 1) 23 (cA a) := blk_at _ _ _ _ _ (by rw [alloc_size]) rfl
    have hbel : Below w.heap.size w ((w.alloc (.cells c.cells 25)).alloc (.cells (cA a) 23)) := ((Below.refl _ _).alloc (Nat.le_refl _) _).alloc (by simp) _
    have hlt := b0.lt
    have hlt1 := b1.lt
    generalize ((w.alloc (.cells c.cells 25)).alloc (.cells (cA a) 23)) = w1 at *
    generalize hG : w.heap.size = G at *
    have HB := Lib.hid b0
    have HB1 := Lib.hid b1
    have HL := Lib.hid hbel
    have HA := Lib.hid (And.intro (rangeC (w := w1.drew) b0) (rangeA (w := w1.drew) b1))
    clear b0 b1 hbel
    refine wp_region_held_drew (S := fun w' => w'.rangeAt G 0 (cL c) ∧ w'.rangeAt (G + 1) 0 (cellsOf a)) (by kernel_rfl) HA.out (fun h0 => ?_)
    refine hd_take 0 (some 5) (.agg c.cells) rfl rfl (by kernel_rfl) (by kernel_rfl) (by kernel_rfl) (fun _ _ _ h => h) (yieldsIf_load_mid (by rfl) _ _ rfl G 0 rfl (cL c) _ (fun _ h => h.1) und17 rfl hi17) h0 ?_
    simp only [Act.put, List.setIfInBounds_toArray, List.set_cons_zero, List.set_cons_succ]
    refine wpAnyH_ready (rs := [1]) (by kernel_rfl) (by simp) (AllReadyH.cons rfl (fun K hK => ?_) AllReadyH.nil)
    go_simp
    go_wp2_with (go_at_call 9; refine (right_any c hc _).mono ?_; rintro e w2 ⟨rfl, hb2⟩; rw [hr.out]; have HB2 := Lib.hid hb2; have b2 : Blk w2 G _ _ := Blk.below (w := w1.drew) HB.out hb2 hlt; have b3 : Blk w2 (G + 1) _ _ := Blk.below (w := w1.drew) HB1.out hb2 hlt1; have HC := Lib.hid (And.intro (rangeC b2) (rangeA b3)); clear b2 b3 hb2)
    refine hK.out _ _ HC.out (fun h2 => ?_)
    clear hK K
    refine hd_take 2 (some 7) (.bool true) rfl rfl (by kernel_rfl) (by kernel_rfl) (by kernel_rfl) (fun _ _ _ h => h) (Or.inl ⟨by rfl, fun w hw => by go_simp⟩) h2 ?_
    simp only [Act.put, List.setIfInBounds_toArray, List.set_cons_zero, List.set_cons_succ]
    refine hd_take 3 (some 8) (.pointer (some ⟨G, 0, none⟩)) rfl rfl (by kernel_rfl) (by kernel_rfl) (by kernel_rfl) (fun _ _ _ h => h) (Or.inl ⟨by rfl, fun w hw => by go_simp⟩) h2 ?_
    simp only [Act.put, List.setIfInBounds_toArray, List.set_cons_zero, List.set_cons_succ]
    refine hd_take 4 (some 9) (.agg (cA c.a)) rfl rfl (by kernel_rfl) (by kernel_rfl) (by kernel_rfl) (fun _ _ _ h => h) (yieldsIf_load_mid (by rfl) _ _ rfl G 0 rfl (cellsOf c.a) _ (fun _ h => range_a h.1) und16 rfl hi) h2 ?_
    simp only [Act.put, List.setIfInBounds_toArray, List.set_cons_zero, List.set_cons_succ]
    refine hd_take 5 (some 10) (.agg (cA a)) rfl rfl (by kernel_rfl) (by kernel_rfl) (by kernel_rfl) (fun _ _ _ h => h) (yieldsIf_load_mid (by rfl) _ _ rfl (G + 1) 0 rfl (cellsOf a) _ (fun _ h => h.2) und16 rfl hi2) h2 ?_
    simp only [Act.put, List.setIfInBounds_toArray, List.set_cons_zero, List.set_cons_succ]
    refine hd_take 6 (some 11) (.pointer (some ⟨G, 16, none⟩)) rfl rfl (by kernel_rfl) (by kernel_rfl) (by kernel_rfl) (fun _ _ _ h => h) (Or.inl ⟨by rfl, fun w hw => by go_simp⟩) h2 ?_
    simp only [Act.put, List.setIfInBounds_toArray, List.set_cons_zero, List.set_cons_succ]
    refine hd_take 7 (some 12) (.int .i64 c.n) rfl rfl (by kernel_rfl) (by kernel_rfl) (by kernel_rfl) (fun _ _ _ h => h) (Or.inl ⟨by rfl, fun w hw => by have h16 := range_n hw.1 hc; go_simp⟩) h2 ?_
    simp only [Act.put, List.setIfInBounds_toArray, List.set_cons_zero, List.set_cons_succ]
    refine wpAnyH_ready (rs := [8]) (by kernel_rfl) (by simp) (AllReadyH.cons rfl (fun K hK => ?_) AllReadyH.nil)
    go_simp
    go_wp2_with (go_at_call 29; refine (mask_any a ha c.n _).mono ?_; rintro e w3 ⟨rfl, hb4⟩; have HB4 := Lib.hid (HB2.out.trans (hb4.mono HB2.out.size)); have b4 : Blk w3 G _ _ := Blk.below (w := w1.drew) HB.out HB4.out hlt; have b5 : Blk w3 (G + 1) _ _ := Blk.below (w := w1.drew) HB1.out HB4.out hlt1; have HD := Lib.hid (And.intro (rangeC b4) (rangeA b5)); clear b4 b5 hb4)
    refine hK.out _ _ HD.out (fun h3 => ?_)
    clear hK K
    refine hd_take 9 (some 14) (.bool (c.a == maskS a (bitN c.n))) rfl rfl (by kernel_rfl) (by kernel_rfl) (by kernel_rfl) (fun _ _ _ h => h) (Or.inl ⟨by rfl, fun w hw => by go_simp⟩) h3 ?_
    simp only [Act.put, List.setIfInBounds_toArray, List.set_cons_zero, List.set_cons_succ]
    refine hd_take 10 (some 15) (.bool (c.a == maskS a (bitN c.n))) rfl rfl (by kernel_rfl) (by kernel_rfl) (by kernel_rfl) (fun _ _ _ h => h) (Or.inl ⟨by rfl, fun w hw => by go_simp⟩) h3 ?_
    simp only [Act.put, List.setIfInBounds_toArray, List.set_cons_zero, List.set_cons_succ]
    refine hd_take 11 (some 4) (.bool (c.a == maskS a (bitN c.n))) rfl rfl (by kernel_rfl) (by kernel_rfl) (by kernel_rfl) (fun _ _ _ h => h) (Or.inl ⟨by rfl, fun w hw => by go_simp⟩) h3 ?_
    simp only [Act.put, List.setIfInBounds_toArray, List.set_cons_zero, List.set_cons_succ]
    refine wpAnyH_done (by kernel_rfl) ?_ _
    go_wp2_with fail
    go_ret
    rw [HR.out]
    refine ⟨rfl, ?_⟩
    rw [hG]
    exact HL.out.trans ((Below.refl _ _).drew.trans (HB4.out.mono (by show G ≤ w1.heap.size; omega)))
end Go.Proofs.YtialcnioeeikpaaGreatDoor.Ad
