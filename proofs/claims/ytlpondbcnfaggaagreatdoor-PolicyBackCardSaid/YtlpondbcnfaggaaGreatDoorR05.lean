/-
  Contract of package addr's Four over this seat's translation.
-/
import Derived.Test.YtlpondbcnfaggaaGreatDoorR02
import Derived.Deep.RegionHeld3
namespace Go.Proofs.YtlpondbcnfaggaaGreatDoor.Ad
open Go.RowKit Go.Proofs.YtlpondbcnfaggaaGreatDoor.Wd

theorem rangeA {w : World} {g t : Nat} {l : List UInt8} (h : Blk w g t (cA l)) : w.rangeAt g 0 (cellsOf l) := fun j v hv => by
  rw [Nat.zero_add, h.cell]
  simpa using hv

/-- the cells of a variable, as the walk asks them -/
theorem lcf {w : World} {g off n : Nat} {cs : List Value} (h : w.rangeAt g off cs) (hn : cs.length = n) : (loadCellsFrom ⟨g, off, none⟩ 0 n #[]).run Tryz.prog w = .ok cs.toArray w := by
  subst hn
  have := run_loadCells_list (P := Tryz.prog) w ⟨g, off, none⟩ cs (fun j v hv => by rw [Addr.add_mid]; exact h j v hv)
  simpa [loadCells] using this

/-- one operation of a drawn region taken first, its place given -/
theorem hd_take {P : Program} {ops : Array Oper} {Q : Exit → Act → World → Prop} {md : Region.Mode} {S : World → Prop} (i : Nat) (dst : Option Tmp) (v : Value) {oi : Oper} {fuel : Nat} {listed : Array Bool} {a : Act} {w : World} (hi : ops[i]? = some oi) (hd : oi.dst = dst)
    (hs : Region.noSelect ops = true) (hf : Region.free md ops listed i = true) (hr : (Region.ready md ops listed).contains i = true)
    (hQ : ∀ c a w, Q (.panic c) (a.put oi.dst v) w → Q (.panic c) a w) (hy : YieldsIf P ops S oi v a) (hS : S w)
    (h : wpAnyH P md ops Q S fuel (listed.setIfInBounds i true) (a.put dst v) w) : wpAnyH P md ops Q S (fuel + 1) listed a w := by
  subst hd
  exact wpAnyH_take hi hs hf hr hQ hy hS h

set_option linter.unusedSimpArgs false in
set_option maxRecDepth 100000 in
set_option maxHeartbeats 1000000 in
theorem four_any (a : List UInt8) (ha : a.length = 16) (w : World) :
    Calls Tryz.prog 83 #[.agg (cA a)] w fun e w' => e = .returned (.bool (fourS a)) ∧ Below w.heap.size w w' := by
  have hl4 := lastS_len ha
  have hl16 := of4S_len hl4
  have hn16 : (cellsOf a).length = 16 := by rw [cellsOf_length, ha]
  have heq := eql16 a (of4S (lastS a)) ha hl16
  have HF := Lib.hid (show (a == of4S (lastS a)) = fourS a from rfl)
  go_enter Tryz.func83, Tryz.ntmps83
  go_wp2_with fail
  have b0 := Blk.new w 48 (cA a)
  have hbel : Below w.heap.size w (w.alloc (.cells (cA a) 48)) := (Below.refl _ _).alloc (Nat.le_refl _) _
  have hlt := b0.lt
  generalize w.alloc (.cells (cA a) 48) = w1 at *
  generalize hG : w.heap.size = G at *
  have HL := Lib.hid hbel
  have HR := Lib.hid (rangeA (w := w1.drew) b0)
  have HB := Lib.hid b0
  have hi : (Tryz.prog.info? 48).map (·.size) = some (cellsOf a).length := by rw [hn16]; exact info16
  clear b0 hbel
  refine wp_region_held_drew (S := fun w' => w'.rangeAt G 0 (cellsOf a)) (by kernel_rfl) HR.out (fun h0 => ?_)
  refine hd_take 0 (some 3) (.agg (cellsOf a).toArray) rfl rfl (by kernel_rfl) (by kernel_rfl) (by kernel_rfl) (fun _ _ _ h => h) (yieldsIf_load_mid (by rfl) _ _ rfl G 0 rfl (cellsOf a) _ (fun _ h => h) und16 rfl hi) h0 ?_
  simp only [Act.put, List.setIfInBounds_toArray, List.set_cons_zero, List.set_cons_succ]
  refine hd_take 1 (some 4) (.agg (cellsOf a).toArray) rfl rfl (by kernel_rfl) (by kernel_rfl) (by kernel_rfl) (fun _ _ _ h => h) (yieldsIf_load_mid (by rfl) _ _ rfl G 0 rfl (cellsOf a) _ (fun _ h => h) und16 rfl hi) h0 ?_
  simp only [Act.put, List.setIfInBounds_toArray, List.set_cons_zero, List.set_cons_succ]
  refine wpAnyH_ready (rs := [2]) (by kernel_rfl) (by simp) (AllReadyH.cons rfl (fun K hK => ?_) AllReadyH.nil)
  go_simp
  go_wp2_with (go_at_call 84; refine (lastOf_any a ha _).mono ?_; rintro e w2 ⟨rfl, hb2⟩; have HB2 := Lib.hid hb2; have b2 : Blk w2 G _ _ := Blk.below (w := w1.drew) HB.out hb2 hlt; have HR2 := Lib.hid (rangeA b2); clear b2 hb2)
  refine hK.out _ _ HR2.out (fun h2 => ?_)
  clear hK K
  refine wpAnyH_ready (rs := [3]) (by kernel_rfl) (by simp) (AllReadyH.cons rfl (fun K hK => ?_) AllReadyH.nil)
  go_simp
  go_wp2_with (go_at_call 55; refine (of4_any (lastS a) hl4 _).mono ?_; rintro e w3 ⟨rfl, hb3⟩; have HB3 := Lib.hid hb3; have b3 : Blk w3 G _ _ := Blk.below (w := w1.drew) HB.out (HB2.out.trans (hb3.mono HB2.out.size)) hlt; have HR3 := Lib.hid (rangeA b3); clear b3 hb3)
  refine hK.out _ _ HR3.out (fun h3 => ?_)
  clear hK K
  refine hd_take 4 (some 7) (.bool (a == of4S (lastS a))) rfl rfl (by kernel_rfl) (by kernel_rfl) (by kernel_rfl) (fun _ _ _ h => h) (Or.inl ⟨by rfl, fun w hw => by go_simp⟩) h3 ?_
  simp only [Act.put, List.setIfInBounds_toArray, List.set_cons_zero, List.set_cons_succ]
  refine hd_take 5 (some 2) (.bool (a == of4S (lastS a))) rfl rfl (by kernel_rfl) (by kernel_rfl) (by kernel_rfl) (fun _ _ _ h => h) (Or.inl ⟨by rfl, fun w hw => by go_simp⟩) h3 ?_
  simp only [Act.put, List.setIfInBounds_toArray, List.set_cons_zero, List.set_cons_succ]
  refine wpAnyH_done (by kernel_rfl) ?_ _
  all_goals (go_wp2_with fail; go_ret; rw [HF.out]; refine ⟨rfl, ?_⟩; rw [hG]; exact HL.out.trans ((Below.refl _ _).drew.trans ((HB2.out.trans (HB3.out.mono HB2.out.size)).mono (by show G ≤ w1.heap.size; omega))))
end Go.Proofs.YtlpondbcnfaggaaGreatDoor.Ad

/-
  Contracts of package cidr's Right and Has over this seat's translation.
-/
namespace Go.Proofs.YtlpondbcnfaggaaGreatDoor.Ad
open Go.RowKit Go.Proofs.YtlpondbcnfaggaaGreatDoor.Wd

abbrev cL (c : C) : List Value := cellsOf c.a ++ [Value.int .i64 c.n]
theorem cL_len (c : C) (h : c.a.length = 16) : (cL c).length = 17 := by simp [cellsOf_length, h]
theorem rangeC {w : World} {g t : Nat} {c : C} (h : Blk w g t c.cells) : w.rangeAt g 0 (cL c) := fun j v hv => by
  rw [Nat.zero_add, h.cell]
  simpa [C.cells] using hv
theorem range_a {w : World} {g : Nat} {c : C} (h : w.rangeAt g 0 (cL c)) : w.rangeAt g 0 (cellsOf c.a) := fun j v hv =>
  h j v (by rw [List.getElem?_append_left (List.getElem?_eq_some_iff.1 hv).1]; exact hv)
theorem range_n {w : World} {g : Nat} {c : C} (h : w.rangeAt g 0 (cL c)) (hc : c.a.length = 16) : w.cell? ⟨g, 16, none⟩ = some (.int .i64 c.n) := by
  have := h 16 (.int .i64 c.n) (by rw [List.getElem?_append_right (by rw [cellsOf_length, hc]; omega), cellsOf_length, hc]; rfl)
  simpa using this

set_option linter.unusedSimpArgs false in
set_option maxRecDepth 100000 in
set_option maxHeartbeats 2000000 in
theorem right_any (c : C) (hc : c.a.length = 16) (w : World) :
    Calls Tryz.prog 99 #[.agg c.cells] w fun e w' => e = .returned (.bool (rightS c)) ∧ Below w.heap.size w w' := by
  have HR := Lib.hid (show (c == ofS c.a c.n) = rightS c from rfl)
  have hz := ofS_len c.a c.n
  rw [hc] at hz
  have heq := eql17 c (ofS c.a c.n) hc hz
  have hi : (Tryz.prog.info? 48).map (·.size) = some (cellsOf c.a).length := by rw [cellsOf_length, hc]; exact info16
  have hi17 : (Tryz.prog.info? 95).map (·.size) = some (cL c).length := by rw [cL_len c hc]; exact info17
  go_enter Tryz.func99, Tryz.ntmps99
  go_wp2_with fail
  have b0 := Blk.new w 95 c.cells
  have hbel : Below w.heap.size w (w.alloc (.cells c.cells 95)) := (Below.refl _ _).alloc (Nat.le_refl _) _
  have hlt := b0.lt
  generalize w.alloc (.cells c.cells 95) = w1 at *
  generalize hG : w.heap.size = G at *
  have HB := Lib.hid b0
  have HL := Lib.hid hbel
  have HA := Lib.hid (rangeC (w := w1.drew) b0)
  clear b0 hbel
  refine wp_region_held_drew (S := fun w' => w'.rangeAt G 0 (cL c)) (by kernel_rfl) HA.out (fun h0 => ?_)
  refine hd_take 0 (some 3) (.agg c.cells) rfl rfl (by kernel_rfl) (by kernel_rfl) (by kernel_rfl) (fun _ _ _ h => h) (yieldsIf_load_mid (by rfl) _ _ rfl G 0 rfl (cL c) _ (fun _ h => h) und17 rfl hi17) h0 ?_
  simp only [Act.put, List.setIfInBounds_toArray, List.set_cons_zero, List.set_cons_succ]
  refine hd_take 1 (some 4) (.pointer (some ⟨G, 0, none⟩)) rfl rfl (by kernel_rfl) (by kernel_rfl) (by kernel_rfl) (fun _ _ _ h => h) (Or.inl ⟨by rfl, fun w hw => by go_simp⟩) h0 ?_
  simp only [Act.put, List.setIfInBounds_toArray, List.set_cons_zero, List.set_cons_succ]
  refine hd_take 2 (some 5) (.agg (cA c.a)) rfl rfl (by kernel_rfl) (by kernel_rfl) (by kernel_rfl) (fun _ _ _ h => h) (yieldsIf_load_mid (by rfl) _ _ rfl G 0 rfl (cellsOf c.a) _ (fun _ h => range_a h) und16 rfl hi) h0 ?_
  simp only [Act.put, List.setIfInBounds_toArray, List.set_cons_zero, List.set_cons_succ]
  refine hd_take 3 (some 6) (.pointer (some ⟨G, 16, none⟩)) rfl rfl (by kernel_rfl) (by kernel_rfl) (by kernel_rfl) (fun _ _ _ h => h) (Or.inl ⟨by rfl, fun w hw => by go_simp⟩) h0 ?_
  simp only [Act.put, List.setIfInBounds_toArray, List.set_cons_zero, List.set_cons_succ]
  refine hd_take 4 (some 7) (.int .i64 c.n) rfl rfl (by kernel_rfl) (by kernel_rfl) (by kernel_rfl) (fun _ _ _ h => h) (Or.inl ⟨by rfl, fun w hw => by have h16 := range_n hw hc; go_simp⟩) h0 ?_
  simp only [Act.put, List.setIfInBounds_toArray, List.set_cons_zero, List.set_cons_succ]
  refine wpAnyH_ready (rs := [5]) (by kernel_rfl) (by simp) (AllReadyH.cons rfl (fun K hK => ?_) AllReadyH.nil)
  go_simp
  go_wp2_with (go_at_call 136; refine (of_any c.a hc c.n _).mono ?_; rintro e w2 ⟨rfl, hb2⟩; have HB2 := Lib.hid hb2; have b2 : Blk w2 G _ _ := Blk.below (w := w1.drew) HB.out hb2 hlt; have HC := Lib.hid (rangeC b2); clear b2 hb2)
  refine hK.out _ _ HC.out (fun h2 => ?_)
  clear hK K
  refine hd_take 6 (some 9) (.bool (c == ofS c.a c.n)) rfl rfl (by kernel_rfl) (by kernel_rfl) (by kernel_rfl) (fun _ _ _ h => h) (Or.inl ⟨by rfl, fun w hw => by go_simp⟩) h2 ?_
  simp only [Act.put, List.setIfInBounds_toArray, List.set_cons_zero, List.set_cons_succ]
  refine hd_take 7 (some 2) (.bool (c == ofS c.a c.n)) rfl rfl (by kernel_rfl) (by kernel_rfl) (by kernel_rfl) (fun _ _ _ h => h) (Or.inl ⟨by rfl, fun w hw => by go_simp⟩) h2 ?_
  simp only [Act.put, List.setIfInBounds_toArray, List.set_cons_zero, List.set_cons_succ]
  refine wpAnyH_done (by kernel_rfl) ?_ _
  go_wp2_with fail
  go_ret
  rw [HR.out]
  refine ⟨rfl, ?_⟩
  rw [hG]
  exact HL.out.trans ((Below.refl _ _).drew.trans (HB2.out.mono (by show G ≤ w1.heap.size; omega)))

end Go.Proofs.YtlpondbcnfaggaaGreatDoor.Ad
