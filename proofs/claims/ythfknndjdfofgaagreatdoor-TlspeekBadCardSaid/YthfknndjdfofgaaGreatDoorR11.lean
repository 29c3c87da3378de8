/-
 Contract of package addr's Four over this seat's translation.
-/
import Derived.Test.YthfknndjdfofgaaGreatDoorR09
import Derived.Deep.RegionHeld3
namespace Go.Proofs.YthfknndjdfofgaaGreatDoor.Ad
open Go.RowKit Go.Proofs.YthfknndjdfofgaaGreatDoor.Wd

theorem rangeA {w : World} {g t : Nat} {l : List UInt8} (h : Blk w g t (cA l)) : w.rangeAt g 0 (cellsOf l) := fun j v hv => by
 rw [Nat.zero_add, h.cell]
 simpa using hv

theorem hd_take {P : Program} {ops : Array Oper} {Q : Exit → Act → World → Prop} {md : Region.Mode} {S : World → Prop} (i : Nat) (dst : Option Tmp) (v : Value) {oi : Oper} {fuel : Nat} {listed : Array Bool} {a : Act} {w : World} (hi : ops[i]? = some oi) (hd : oi.dst = dst)
   (hs : Region.noSelect ops = true) (hf : Region.free md ops listed i = true) (hr : (Region.ready md ops listed).contains i = true)
   (hQ : ∀ c a w, Q (.panic c) (a.put oi.dst v) w → Q (.panic c) a w) (hy : YieldsIf P ops S oi v a) (hS : S w)
   (h : wpAnyH P md ops Q S fuel (listed.setIfInBounds i true) (a.put dst v) w) : wpAnyH P md ops Q S (fuel + 1) listed a w := by
 subst hd
 exact wpAnyH_take hi hs hf hr hQ hy hS h

set_option linter.unusedSimpArgs false in
set_option maxRecDepth 100000 in
set_option maxHeartbeats 1000000 in
theorem four_any (a : List UInt8) (ha : a.length = 16) (w : World) :
   Calls Tryz.prog 65 #[.agg (cA a)] w fun e w' => e = .returned (.bool (fourS a)) ∧ Below w.heap.size w w' := by
 have hl4 := lastS_len ha
 have hl16 := of4S_len hl4
 have hn16 : (cellsOf a).length = 16 := by rw [cellsOf_length, ha]
 have heq := eql16 a (of4S (lastS a)) ha hl16
 have HF := Lib.hid (show (a == of4S (lastS a)) = fourS a from rfl)
 go_enter Tryz.func65, Tryz.ntmps65
 go_wp2_with fail
 have b0 := Blk.new w 75 (cA a)
 have hbel : Below w.heap.size w (w.alloc (.cells (cA a) 75)) := (Below.refl _ _).alloc (Nat.le_refl _) _
 have hlt := b0.lt
 generalize w.alloc (.cells (cA a) 75) = w1 at *
 generalize hG : w.heap.size = G at *
 have HL := Lib.hid hbel
 have HR := Lib.hid (rangeA (w := w1.drew) b0)
 have HB := Lib.hid b0
 have hi : (Tryz.prog.info? 75).map (·.size) = some (cellsOf a).length := by rw [hn16]; exact info16
 clear b0 hbel
 refine wp_region_held_drew (S := fun w' => w'.rangeAt G 0 (cellsOf a)) (by kernel_rfl) HR.out (fun h0 => ?_)
 refine hd_take 0 (some 3) (.agg (cellsOf a).toArray) rfl rfl (by kernel_rfl) (by kernel_rfl) (by kernel_rfl) (fun _ _ _ h => h) (yieldsIf_load_mid (by rfl) _ _ rfl G 0 rfl (cellsOf a) _ (fun _ h => h) und16 rfl hi) h0 ?_
 simp only [Act.put, List.setIfInBounds_toArray, List.set_cons_zero, List.set_cons_succ]
 refine hd_take 1 (some 4) (.agg (cellsOf a).toArray) rfl rfl (by kernel_rfl) (by kernel_rfl) (by kernel_rfl) (fun _ _ _ h => h) (yieldsIf_load_mid (by rfl) _ _ rfl G 0 rfl (cellsOf a) _ (fun _ h => h) und16 rfl hi) h0 ?_
 simp only [Act.put, List.setIfInBounds_toArray, List.set_cons_zero, List.set_cons_succ]
 refine wpAnyH_ready (rs := [2]) (by kernel_rfl) (by simp) (AllReadyH.cons rfl (fun K hK => ?_) AllReadyH.nil)
 go_simp
 go_wp2_with (go_at_call 66; refine (lastOf_any a ha _).mono ?_; rintro e w2 ⟨rfl, hb2⟩; have HB2 := Lib.hid hb2; have b2 : Blk w2 G _ _ := Blk.below (w := w1.drew) HB.out hb2 hlt; have HR2 := Lib.hid (rangeA b2); clear b2 hb2)
 refine hK.out _ _ HR2.out (fun h2 => ?_)
 clear hK K
 refine wpAnyH_ready (rs := [3]) (by kernel_rfl) (by simp) (AllReadyH.cons rfl (fun K hK => ?_) AllReadyH.nil)
 go_simp
 go_wp2_with (go_at_call 64; refine (of4_any (lastS a) hl4 _).mono ?_; rintro e w3 ⟨rfl, hb3⟩; have HB3 := Lib.hid hb3; have b3 : Blk w3 G _ _ := Blk.below (w := w1.drew) HB.out (HB2.out.trans (hb3.mono HB2.out.size)) hlt; have HR3 := Lib.hid (rangeA b3); clear b3 hb3)
 refine hK.out _ _ HR3.out (fun h3 => ?_)
 clear hK K
 refine hd_take 4 (some 7) (.bool (a == of4S (lastS a))) rfl rfl (by kernel_rfl) (by kernel_rfl) (by kernel_rfl) (fun _ _ _ h => h) (Or.inl ⟨by rfl, fun w hw => by go_simp⟩) h3 ?_
 simp only [Act.put, List.setIfInBounds_toArray, List.set_cons_zero, List.set_cons_succ]
 refine hd_take 5 (some 2) (.bool (a == of4S (lastS a))) rfl rfl (by kernel_rfl) (by kernel_rfl) (by kernel_rfl) (fun _ _ _ h => h) (Or.inl ⟨by rfl, fun w hw => by go_simp⟩) h3 ?_
 simp only [Act.put, List.setIfInBounds_toArray, List.set_cons_zero, List.set_cons_succ]
 refine wpAnyH_done (by kernel_rfl) ?_ _
 all_goals (go_wp2_with fail; go_ret; rw [HF.out]; refine ⟨rfl, ?_⟩; rw [hG]; exact HL.out.trans ((Below.refl _ _).drew.trans ((HB2.out.trans (HB3.out.mono HB2.out.size)).mono (by show G ≤ w1.heap.size; omega))))
end Go.Proofs.YthfknndjdfofgaaGreatDoor.Ad

/-
 Contracts of package cidr's Right and Has over this seat's translation.
-/
namespace Go.Proofs.YthfknndjdfofgaaGreatDoor.Ad
open Go.RowKit Go.Proofs.YthfknndjdfofgaaGreatDoor.Wd

abbrev cL (c : C) : List Value := cellsOf c.a ++ [Value.int .i64 c.n]
theorem rangeC {w : World} {g t : Nat} {c : C} (h : Blk w g t c.cells) : w.rangeAt g 0 (cL c) := fun j v hv => by
 rw [Nat.zero_add, h.cell]
 simpa [C.cells] using hv
theorem range_a {w : World} {g : Nat} {c : C} (h : w.rangeAt g 0 (cL c)) : w.rangeAt g 0 (cellsOf c.a) := fun j v hv =>
 h j v (by rw [List.getElem?_append_left (List.getElem?_eq_some_iff.1 hv).1]; exact hv)
end Go.Proofs.YthfknndjdfofgaaGreatDoor.Ad
