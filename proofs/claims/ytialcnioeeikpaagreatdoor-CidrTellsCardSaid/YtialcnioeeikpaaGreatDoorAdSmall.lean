/-
  The small case of the layer's statements, over this seat's translation.
-/
import Derived.Test.YtialcnioeeikpaaGreatDoorAdSmallP
namespace Go.Proofs.YtialcnioeeikpaaGreatDoor.Ad
open Go.RowKit Go.Maps Go.Proofs.YtialcnioeeikpaaGreatDoor.Wd

def CParsed (r : Option C) (w : World) (e : Ending) (w' : World) : Prop := e = .returned (.tuple #[.agg (r.getD C0).cells, .bool r.isSome]) ∧ Below w.heap.size w w'
theorem parse_small {B : Nat} (l : List UInt8) (r : Option C) (hr : cparseS l = r) (hl : l.length < 4294967281) (w : World) (hE : Env B w) :
    Calls Tryz.prog 5 #[.string (str l)] w (CParsed r w) := by
  subst hr
  exact cparse_any l w hE hl

set_option linter.unusedSimpArgs false in
set_option maxRecDepth 100000 in
set_option maxHeartbeats 10000000 in
theorem small_any {B : Nat} (w : World) (hE : Env B w) : Calls Tryz.prog 4 #[] w fun e w' => e = .returned (.bool true) ∧ Below w.heap.size w w' := by
  have E : Loc B w w [] := ⟨hE, Below.refl _ _, fun x hx => by cases hx⟩
  have HB := Lib.hid hE.le
  clear hE
  go_enter Tryz.func4, Tryz.ntmps4
  go_wp2_with fail
  refine (parse_small [49, 48, 46, 49, 46, 50, 46, 51, 47, 56] (some c1) cp1 (by decide) _ E.env).mono ?_
  rintro e w1 ⟨rfl, hb⟩
  replace E := E.on hb
  clear hb
  simp only [Option.getD_some, Option.getD_none, Option.isSome_some, Option.isSome_none]
  have hz : c1.cells.size = 17 := rfl
  go_upto_region 2 with (refine go_st 25 (Blk.new _ _ _) info17 rfl hz (C_one _) rfl rfl rfl rfl ?_)
  clear hz
  replace E := E.new 25 #[Value.int .u8 0, Value.int .u8 0, Value.int .u8 0, Value.int .u8 0, Value.int .u8 0, Value.int .u8 0, Value.int .u8 0, Value.int .u8 0, Value.int .u8 0, Value.int .u8 0, Value.int .u8 0, Value.int .u8 0, Value.int .u8 0, Value.int .u8 0, Value.int .u8 0, Value.int .u8 0, Value.int .i64 0] c1.cells
  generalize hG0 : w1.heap.size = G0 at *
  generalize (w1.alloc (.cells #[Value.int .u8 0, Value.int .u8 0, Value.int .u8 0, Value.int .u8 0, Value.int .u8 0, Value.int .u8 0, Value.int .u8 0, Value.int .u8 0, Value.int .u8 0, Value.int .u8 0, Value.int .u8 0, Value.int .u8 0, Value.int .u8 0, Value.int .u8 0, Value.int .u8 0, Value.int .u8 0, Value.int .i64 0] 25)).setRow G0 c1.cells = w09 at *
  clear hG0 w1
  go_wp2_with fail
  refine (parse_small [58, 58, 47, 48] (some c2) cp2 (by decide) _ E.env).mono ?_
  rintro e w1 ⟨rfl, hb⟩
  replace E := E.on hb
  clear hb
  simp only [Option.getD_some, Option.getD_none, Option.isSome_some, Option.isSome_none]
  have hz : c2.cells.size = 17 := rfl
  go_upto_region 3 with (refine go_st 25 (Blk.new _ _ _) info17 rfl hz (C_one _) rfl rfl rfl rfl ?_)
  clear hz
  replace E := E.new 25 #[Value.int .u8 0, Value.int .u8 0, Value.int .u8 0, Value.int .u8 0, Value.int .u8 0, Value.int .u8 0, Value.int .u8 0, Value.int .u8 0, Value.int .u8 0, Value.int .u8 0, Value.int .u8 0, Value.int .u8 0, Value.int .u8 0, Value.int .u8 0, Value.int .u8 0, Value.int .u8 0, Value.int .i64 0] c2.cells
  generalize hG1 : w1.heap.size = G1 at *
  generalize (w1.alloc (.cells #[Value.int .u8 0, Value.int .u8 0, Value.int .u8 0, Value.int .u8 0, Value.int .u8 0, Value.int .u8 0, Value.int .u8 0, Value.int .u8 0, Value.int .u8 0, Value.int .u8 0, Value.int .u8 0, Value.int .u8 0, Value.int .u8 0, Value.int .u8 0, Value.int .u8 0, Value.int .u8 0, Value.int .i64 0] 25)).setRow G1 c2.cells = w19 at *
  clear hG1 w1
  go_wp2_with fail
  refine (parse_small [49, 48, 46, 48, 46, 48, 46, 48, 47, 51, 51] none cp3 (by decide) _ E.env).mono ?_
  rintro e w1 ⟨rfl, hb⟩
  replace E := E.on hb
  clear hb
  simp only [Option.getD_some, Option.getD_none, Option.isSome_some, Option.isSome_none]
  have hz : C0.cells.size = 17 := rfl
  go_upto_region 4 with (refine go_st 25 (Blk.new _ _ _) info17 rfl hz (C_one _) rfl rfl rfl rfl ?_)
  clear hz
  replace E := E.new 25 #[Value.int .u8 0, Value.int .u8 0, Value.int .u8 0, Value.int .u8 0, Value.int .u8 0, Value.int .u8 0, Value.int .u8 0, Value.int .u8 0, Value.int .u8 0, Value.int .u8 0, Value.int .u8 0, Value.int .u8 0, Value.int .u8 0, Value.int .u8 0, Value.int .u8 0, Value.int .u8 0, Value.int .i64 0] C0.cells
  generalize hG2 : w1.heap.size = G2 at *
  generalize (w1.alloc (.cells #[Value.int .u8 0, Value.int .u8 0, Value.int .u8 0, Value.int .u8 0, Value.int .u8 0, Value.int .u8 0, Value.int .u8 0, Value.int .u8 0, Value.int .u8 0, Value.int .u8 0, Value.int .u8 0, Value.int .u8 0, Value.int .u8 0, Value.int .u8 0, Value.int .u8 0, Value.int .u8 0, Value.int .i64 0] 25)).setRow G2 C0.cells = w29 at *
  clear hG2 w1
  go_wp2_with fail
  refine (parse_small [58, 58, 49] none cp4 (by decide) _ E.env).mono ?_
  rintro e w1 ⟨rfl, hb⟩
  replace E := E.on hb
  clear hb
  simp only [Option.getD_some, Option.getD_none, Option.isSome_some, Option.isSome_none]
  have hz : C0.cells.size = 17 := rfl
  go_upto_region 5 with (refine go_st 25 (Blk.new _ _ _) info17 rfl hz (C_one _) rfl rfl rfl rfl ?_)
  clear hz
  replace E := E.new 25 #[Value.int .u8 0, Value.int .u8 0, Value.int .u8 0, Value.int .u8 0, Value.int .u8 0, Value.int .u8 0, Value.int .u8 0, Value.int .u8 0, Value.int .u8 0, Value.int .u8 0, Value.int .u8 0, Value.int .u8 0, Value.int .u8 0, Value.int .u8 0, Value.int .u8 0, Value.int .u8 0, Value.int .i64 0] C0.cells
  generalize hG3 : w1.heap.size = G3 at *
  generalize (w1.alloc (.cells #[Value.int .u8 0, Value.int .u8 0, Value.int .u8 0, Value.int .u8 0, Value.int .u8 0, Value.int .u8 0, Value.int .u8 0, Value.int .u8 0, Value.int .u8 0, Value.int .u8 0, Value.int .u8 0, Value.int .u8 0, Value.int .u8 0, Value.int .u8 0, Value.int .u8 0, Value.int .u8 0, Value.int .i64 0] 25)).setRow G3 C0.cells = w39 at *
  clear hG3 w1
  go_wp2_with fail
  refine (new_any _).mono ?_
  rintro e w1 ⟨rfl, hs, hb⟩
  replace E := LocS.start E hs hb HB.out
  clear hs hb
  generalize w39.heap.size + 1 = s at *
  generalize w39.heap.size = b at *
  clear w39
  go_wp2_with fail
  rw [show #[Value.int .u8 10, Value.int .u8 9, Value.int .u8 0, Value.int .u8 0] = cA [10, 9, 0, 0] from rfl]
  refine (of4_any [10, 9, 0, 0] rfl _).mono ?_
  rintro e w2 ⟨rfl, hb⟩
  replace E := E.on hb
  clear hb w1
  rw [of41]
  have hz : (cA a1).size = 16 := rfl
  go_upto_region 9 with (refine go_st 23 (Blk.new _ _ _) info16 rfl hz (cA_one _) rfl rfl rfl rfl ?_)
  clear hz
  replace E := E.new 23 #[Value.int .u8 0, Value.int .u8 0, Value.int .u8 0, Value.int .u8 0, Value.int .u8 0, Value.int .u8 0, Value.int .u8 0, Value.int .u8 0, Value.int .u8 0, Value.int .u8 0, Value.int .u8 0, Value.int .u8 0, Value.int .u8 0, Value.int .u8 0, Value.int .u8 0, Value.int .u8 0] (cA a1)
  generalize hGa : w2.heap.size = Ga at *
  generalize (w2.alloc (.cells #[Value.int .u8 0, Value.int .u8 0, Value.int .u8 0, Value.int .u8 0, Value.int .u8 0, Value.int .u8 0, Value.int .u8 0, Value.int .u8 0, Value.int .u8 0, Value.int .u8 0, Value.int .u8 0, Value.int .u8 0, Value.int .u8 0, Value.int .u8 0, Value.int .u8 0, Value.int .u8 0] 23)).setRow Ga (cA a1) = w3 at *
  clear hGa w2
  have bc := E.get G0 25 c1.cells (by simp)
  have hz : c1.cells.size = 17 := rfl
  go_wp2_with (refine go_ld 25 bc und17 rfl info17 hz rfl rfl rfl ?_)
  clear bc hz
  obtain ⟨D, hD⟩ := E.set
  refine (sadd_any c1 c1_ok _ hD (by decide)).mono ?_
  rintro e w4 ⟨rfl, hs, hg⟩
  rw [al1] at hs
  rw [ab1]
  replace E := E.put hs hg
  clear hs hg hD D w3
  have bc := E.get G0 25 c1.cells (by simp)
  have hz : c1.cells.size = 17 := rfl
  go_wp2_with (refine go_ld 25 bc und17 rfl info17 hz rfl rfl rfl ?_)
  clear bc hz
  obtain ⟨D, hD⟩ := E.set
  refine (sadd_any c1 c1_ok _ hD (by decide)).mono ?_
  rintro e w5 ⟨rfl, hs, hg⟩
  rw [al2] at hs
  rw [ab2]
  replace E := E.put hs hg
  clear hs hg hD D w4
  have bc := E.get G1 25 c2.cells (by simp)
  have hz : c2.cells.size = 17 := rfl
  go_wp2_with (refine go_ld 25 bc und17 rfl info17 hz rfl rfl rfl ?_)
  clear bc hz
  obtain ⟨D, hD⟩ := E.set
  refine (sadd_any c2 c2_ok _ hD (by decide)).mono ?_
  rintro e w6 ⟨rfl, hs, hg⟩
  rw [al3] at hs
  rw [ab3]
  replace E := E.put hs hg
  clear hs hg hD D w5
  have ba := E.get Ga 23 (cA a1) (by simp)
  go_wp2_with (refine go_ld 23 ba und16 rfl info16 (by rfl) rfl rfl rfl ?_)
  clear ba
  obtain ⟨D, hD⟩ := E.set
  refine (sfind_any a1 a1_len _ hD).mono ?_
  rintro e w7 ⟨rfl, hb⟩
  replace E := E.on hb
  clear hb hD D w6
  rw [f1]
  simp only [Option.getD_some, Option.isSome_some]
  have hz : c1.cells.size = 17 := rfl
  go_upto_region 13 with (refine go_st 25 (Blk.new _ _ _) info17 rfl hz (C_one _) rfl rfl rfl rfl ?_)
  clear hz
  replace E := E.new 25 #[Value.int .u8 0, Value.int .u8 0, Value.int .u8 0, Value.int .u8 0, Value.int .u8 0, Value.int .u8 0, Value.int .u8 0, Value.int .u8 0, Value.int .u8 0, Value.int .u8 0, Value.int .u8 0, Value.int .u8 0, Value.int .u8 0, Value.int .u8 0, Value.int .u8 0, Value.int .u8 0, Value.int .i64 0] c1.cells
  generalize hGx : w7.heap.size = Gx at *
  generalize (w7.alloc (.cells #[Value.int .u8 0, Value.int .u8 0, Value.int .u8 0, Value.int .u8 0, Value.int .u8 0, Value.int .u8 0, Value.int .u8 0, Value.int .u8 0, Value.int .u8 0, Value.int .u8 0, Value.int .u8 0, Value.int .u8 0, Value.int .u8 0, Value.int .u8 0, Value.int .u8 0, Value.int .u8 0, Value.int .i64 0] 25)).setRow Gx c1.cells = w8 at *
  clear hGx w7
  have bc := E.get G0 25 c1.cells (by simp)
  have hz : c1.cells.size = 17 := rfl
  go_wp2_with (refine go_ld 25 bc und17 rfl info17 hz rfl rfl rfl ?_)
  clear bc hz
  obtain ⟨D, hD⟩ := E.set
  refine (sdrop_any c1 c1_ok _ hD).mono ?_
  rintro e w9 ⟨rfl, hs, hg⟩
  rw [er1] at hs
  rw [mem1]
  replace E := E.put hs hg
  clear hs hg hD D w8
  have ba := E.get Ga 23 (cA a1) (by simp)
  go_wp2_with (refine go_ld 23 ba und16 rfl info16 (by rfl) rfl rfl rfl ?_)
  clear ba
  obtain ⟨D, hD⟩ := E.set
  refine (sfind_any a1 a1_len _ hD).mono ?_
  rintro e v1 ⟨rfl, hb⟩
  replace E := E.on hb
  clear hb hD D w9
  rw [f2]
  simp only [Option.getD_some, Option.isSome_some]
  have hz : c2.cells.size = 17 := rfl
  go_upto_region 15 with (refine go_st 25 (Blk.new _ _ _) info17 rfl hz (C_one _) rfl rfl rfl rfl ?_)
  clear hz
  replace E := E.new 25 #[Value.int .u8 0, Value.int .u8 0, Value.int .u8 0, Value.int .u8 0, Value.int .u8 0, Value.int .u8 0, Value.int .u8 0, Value.int .u8 0, Value.int .u8 0, Value.int .u8 0, Value.int .u8 0, Value.int .u8 0, Value.int .u8 0, Value.int .u8 0, Value.int .u8 0, Value.int .u8 0, Value.int .i64 0] c2.cells
  generalize hGy : v1.heap.size = Gy at *
  generalize (v1.alloc (.cells #[Value.int .u8 0, Value.int .u8 0, Value.int .u8 0, Value.int .u8 0, Value.int .u8 0, Value.int .u8 0, Value.int .u8 0, Value.int .u8 0, Value.int .u8 0, Value.int .u8 0, Value.int .u8 0, Value.int .u8 0, Value.int .u8 0, Value.int .u8 0, Value.int .u8 0, Value.int .u8 0, Value.int .i64 0] 25)).setRow Gy c2.cells = v2 at *
  clear hGy v1
  go_wp2_with fail
  obtain ⟨D, hD⟩ := E.set
  refine (sall_any (by simp) _ hD).mono ?_
  rintro e v3 ⟨g, cap, M, rfl, hperm, hio, hrow, hge, hgl, hb⟩
  replace E := E.on hb
  clear hb hD D hio hge v2
  obtain ⟨m, rfl⟩ : ∃ m, M = [m] := by
    have := hperm.length_eq
    unfold vals at this
    rw [List.length_map] at this
    match M, this with
    | [m], _ => exact ⟨m, rfl⟩
  have hm : m.1 = c2 := by
    have := hperm.mem_iff.2 (show c2 ∈ [c2] by simp)
    exact (List.mem_singleton.1 (show c2 ∈ [m.1] from this)).symm
  have HR : Hid (v3.rangeAt g 0 (cL c2)) := by
    have h := hrow 0 m rfl
    rw [Nat.zero_mul] at h
    show v3.rangeAt g 0 (cL c2)
    rw [← hm]
    exact h
  clear hm hrow hperm
  go_upto_region 18 with fail
  have hi1 : (Tryz.prog.info? 25).map (·.size) = some (cL c1).length := by rw [cL_len c1 c1_len]; exact info17
  have hi2 : (Tryz.prog.info? 25).map (·.size) = some (cL c2).length := by rw [cL_len c2 c2_len]; exact info17
  have hia : (Tryz.prog.info? 23).map (·.size) = some (cellsOf a1).length := by rw [cellsOf_length, a1_len]; exact info16
  have HS := Lib.hid (show S18 B w _ g v3.drew from (show S18 B w _ g v3 from ⟨E.loc, HR.out, hgl⟩).on (Below.refl _ _).drew)
  clear E HR hgl
  have heq_c1 : ∀ w : World, (binOp .eql 25 (.agg c1.cells) (.agg c1.cells)).run Tryz.prog w = .ok (.bool true) w := fun w => by
    have h := eql17 c1 c1 c1_len c1_len w
    rwa [show (c1 == c1) = true by simp] at h
  have heq_c2 : ∀ w : World, (binOp .eql 25 (.agg c2.cells) (.agg c2.cells)).run Tryz.prog w = .ok (.bool true) w := fun w => by
    have h := eql17 c2 c2 c2_len c2_len w
    rwa [show (c2 == c2) = true by simp] at h
  refine wp_region_held_drew (S := S18 B w [(Gy, 25, c2.cells), (Gx, 25, c1.cells), (Ga, 23, cA a1), (G3, 25, C0.cells), (G2, 25, C0.cells), (G1, 25, c2.cells), (G0, 25, c1.cells)] g) (by kernel_rfl) HS.out (fun h0 => ?_)
  clear HS
  refine hd_take 0 (some 70) (.bool true) rfl rfl (by kernel_rfl) (by kernel_rfl) (by kernel_rfl) (fun _ _ _ h => h) (Or.inl ⟨by rfl, fun w hw => by go_simp⟩) h0 ?_
  simp only [Act.put, List.setIfInBounds_toArray, List.set_cons_zero, List.set_cons_succ]
  refine hd_take 1 (some 71) (.bool true) rfl rfl (by kernel_rfl) (by kernel_rfl) (by kernel_rfl) (fun _ _ _ h => h) (Or.inl ⟨by rfl, fun w hw => by go_simp⟩) h0 ?_
  simp only [Act.put, List.setIfInBounds_toArray, List.set_cons_zero, List.set_cons_succ]
  refine hd_take 2 (some 72) (.bool true) rfl rfl (by kernel_rfl) (by kernel_rfl) (by kernel_rfl) (fun _ _ _ h => h) (Or.inl ⟨by rfl, fun w hw => by go_simp⟩) h0 ?_
  simp only [Act.put, List.setIfInBounds_toArray, List.set_cons_zero, List.set_cons_succ]
  refine hd_take 3 (some 73) (.bool true) rfl rfl (by kernel_rfl) (by kernel_rfl) (by kernel_rfl) (fun _ _ _ h => h) (Or.inl ⟨by rfl, fun w hw => by go_simp⟩) h0 ?_
  simp only [Act.put, List.setIfInBounds_toArray, List.set_cons_zero, List.set_cons_succ]
  refine hd_take 4 (some 74) (.bool true) rfl rfl (by kernel_rfl) (by kernel_rfl) (by kernel_rfl) (fun _ _ _ h => h) (Or.inl ⟨by rfl, fun w hw => by go_simp⟩) h0 ?_
  simp only [Act.put, List.setIfInBounds_toArray, List.set_cons_zero, List.set_cons_succ]
  refine hd_take 5 (some 75) (.bool false) rfl rfl (by kernel_rfl) (by kernel_rfl) (by kernel_rfl) (fun _ _ _ h => h) (Or.inl ⟨by rfl, fun w hw => by go_simp⟩) h0 ?_
  simp only [Act.put, List.setIfInBounds_toArray, List.set_cons_zero, List.set_cons_succ]
  refine hd_take 6 (some 76) (.bool true) rfl rfl (by kernel_rfl) (by kernel_rfl) (by kernel_rfl) (fun _ _ _ h => h) (Or.inl ⟨by rfl, fun w hw => by go_simp⟩) h0 ?_
  simp only [Act.put, List.setIfInBounds_toArray, List.set_cons_zero, List.set_cons_succ]
  refine hd_take 7 (some 77) (.bool true) rfl rfl (by kernel_rfl) (by kernel_rfl) (by kernel_rfl) (fun _ _ _ h => h) (Or.inl ⟨by rfl, fun w hw => by go_simp⟩) h0 ?_
  simp only [Act.put, List.setIfInBounds_toArray, List.set_cons_zero, List.set_cons_succ]
  refine hd_take 8 (some 78) (.bool true) rfl rfl (by kernel_rfl) (by kernel_rfl) (by kernel_rfl) (fun _ _ _ h => h) (Or.inl ⟨by rfl, fun w hw => by go_simp⟩) h0 ?_
  simp only [Act.put, List.setIfInBounds_toArray, List.set_cons_zero, List.set_cons_succ]
  refine hd_take 9 (some 79) (.bool false) rfl rfl (by kernel_rfl) (by kernel_rfl) (by kernel_rfl) (fun _ _ _ h => h) (Or.inl ⟨by rfl, fun w hw => by go_simp⟩) h0 ?_
  simp only [Act.put, List.setIfInBounds_toArray, List.set_cons_zero, List.set_cons_succ]
  refine hd_take 10 (some 80) (.bool true) rfl rfl (by kernel_rfl) (by kernel_rfl) (by kernel_rfl) (fun _ _ _ h => h) (Or.inl ⟨by rfl, fun w hw => by go_simp⟩) h0 ?_
  simp only [Act.put, List.setIfInBounds_toArray, List.set_cons_zero, List.set_cons_succ]
  refine hd_take 11 (some 81) (.bool true) rfl rfl (by kernel_rfl) (by kernel_rfl) (by kernel_rfl) (fun _ _ _ h => h) (Or.inl ⟨by rfl, fun w hw => by go_simp⟩) h0 ?_
  simp only [Act.put, List.setIfInBounds_toArray, List.set_cons_zero, List.set_cons_succ]
  refine hd_take 12 (some 82) (.bool true) rfl rfl (by kernel_rfl) (by kernel_rfl) (by kernel_rfl) (fun _ _ _ h => h) (Or.inl ⟨by rfl, fun w hw => by go_simp⟩) h0 ?_
  simp only [Act.put, List.setIfInBounds_toArray, List.set_cons_zero, List.set_cons_succ]
  refine hd_take 13 (some 83) (.agg c1.cells) rfl rfl (by kernel_rfl) (by kernel_rfl) (by kernel_rfl) (fun _ _ _ h => h) (yieldsIf_load_mid (by rfl) _ _ rfl G0 0 rfl (cL c1) _ (fun _ h => h.c G0 25 c1 (by simp)) und17 rfl hi1) h0 ?_
  simp only [Act.put, List.setIfInBounds_toArray, List.set_cons_zero, List.set_cons_succ]
  refine wpAnyH_ready (rs := [14]) (by kernel_rfl) (by simp) (AllReadyH.cons rfl (fun K hK => ?_) AllReadyH.nil)
  go_simp
  go_wp2_with (go_at_call 13; refine (cprint_any c1 c1_len (by decide) (by decide) (text4 c1.a) (by decide +kernel) _ h0.loc.env (fun w1 hE1 => print_four c1.a c1_len four1 w1 hE1)).mono ?_; rintro e x14 ⟨rfl, hb⟩; rw [txt1]; have HC14 := Lib.hid (h0.on hb); clear hb)
  refine hK.out _ _ HC14.out (fun h14 => ?_)
  clear hK K HC14 h0
  refine hd_take 15 (some 85) (.bool true) rfl rfl (by kernel_rfl) (by kernel_rfl) (by kernel_rfl) (fun _ _ _ h => h) (Or.inl ⟨by rfl, fun w hw => by first | (go_simp; done) | kernel_rfl⟩) h14 ?_
  simp only [Act.put, List.setIfInBounds_toArray, List.set_cons_zero, List.set_cons_succ]
  refine hd_take 16 (some 86) (.bool true) rfl rfl (by kernel_rfl) (by kernel_rfl) (by kernel_rfl) (fun _ _ _ h => h) (Or.inl ⟨by rfl, fun w hw => by go_simp⟩) h14 ?_
  simp only [Act.put, List.setIfInBounds_toArray, List.set_cons_zero, List.set_cons_succ]
  refine hd_take 17 (some 87) (.bool true) rfl rfl (by kernel_rfl) (by kernel_rfl) (by kernel_rfl) (fun _ _ _ h => h) (Or.inl ⟨by rfl, fun w hw => by go_simp⟩) h14 ?_
  simp only [Act.put, List.setIfInBounds_toArray, List.set_cons_zero, List.set_cons_succ]
  refine hd_take 18 (some 88) (.pointer (some ⟨G0, 16, none⟩)) rfl rfl (by kernel_rfl) (by kernel_rfl) (by kernel_rfl) (fun _ _ _ h => h) (Or.inl ⟨by rfl, fun w hw => by go_simp⟩) h14 ?_
  simp only [Act.put, List.setIfInBounds_toArray, List.set_cons_zero, List.set_cons_succ]
  refine hd_take 19 (some 89) (.int .i64 104) rfl rfl (by kernel_rfl) (by kernel_rfl) (by kernel_rfl) (fun _ _ _ h => h) (Or.inl ⟨by rfl, fun w hw => by have h16 : w.cell? ⟨G0, 16, none⟩ = some (.int .i64 104) := hw.n G0 25 c1 c1_len (by simp); go_simp⟩) h14 ?_
  simp only [Act.put, List.setIfInBounds_toArray, List.set_cons_zero, List.set_cons_succ]
  refine hd_take 20 (some 90) (.bool true) rfl rfl (by kernel_rfl) (by kernel_rfl) (by kernel_rfl) (fun _ _ _ h => h) (Or.inl ⟨by rfl, fun w hw => by go_simp⟩) h14 ?_
  simp only [Act.put, List.setIfInBounds_toArray, List.set_cons_zero, List.set_cons_succ]
  refine hd_take 21 (some 91) (.bool true) rfl rfl (by kernel_rfl) (by kernel_rfl) (by kernel_rfl) (fun _ _ _ h => h) (Or.inl ⟨by rfl, fun w hw => by go_simp⟩) h14 ?_
  simp only [Act.put, List.setIfInBounds_toArray, List.set_cons_zero, List.set_cons_succ]
  refine hd_take 22 (some 92) (.bool true) rfl rfl (by kernel_rfl) (by kernel_rfl) (by kernel_rfl) (fun _ _ _ h => h) (Or.inl ⟨by rfl, fun w hw => by go_simp⟩) h14 ?_
  simp only [Act.put, List.setIfInBounds_toArray, List.set_cons_zero, List.set_cons_succ]
  refine hd_take 23 (some 93) (.agg c1.cells) rfl rfl (by kernel_rfl) (by kernel_rfl) (by kernel_rfl) (fun _ _ _ h => h) (yieldsIf_load_mid (by rfl) _ _ rfl G0 0 rfl (cL c1) _ (fun _ h => h.c G0 25 c1 (by simp)) und17 rfl hi1) h14 ?_
  simp only [Act.put, List.setIfInBounds_toArray, List.set_cons_zero, List.set_cons_succ]
  refine wpAnyH_ready (rs := [24]) (by kernel_rfl) (by simp) (AllReadyH.cons rfl (fun K hK => ?_) AllReadyH.nil)
  go_simp
  go_wp2_with (go_at_call 9; refine (right_any c1 c1_len _).mono ?_; rintro e x24 ⟨rfl, hb⟩; rw [r1]; have HC24 := Lib.hid (h14.on hb); clear hb)
  refine hK.out _ _ HC24.out (fun h24 => ?_)
  clear hK K HC24 h14
  refine hd_take 25 (some 95) (.bool true) rfl rfl (by kernel_rfl) (by kernel_rfl) (by kernel_rfl) (fun _ _ _ h => h) (Or.inl ⟨by rfl, fun w hw => by go_simp⟩) h24 ?_
  simp only [Act.put, List.setIfInBounds_toArray, List.set_cons_zero, List.set_cons_succ]
  refine hd_take 26 (some 96) (.bool true) rfl rfl (by kernel_rfl) (by kernel_rfl) (by kernel_rfl) (fun _ _ _ h => h) (Or.inl ⟨by rfl, fun w hw => by go_simp⟩) h24 ?_
  simp only [Act.put, List.setIfInBounds_toArray, List.set_cons_zero, List.set_cons_succ]
  refine hd_take 27 (some 97) (.agg c1.cells) rfl rfl (by kernel_rfl) (by kernel_rfl) (by kernel_rfl) (fun _ _ _ h => h) (yieldsIf_load_mid (by rfl) _ _ rfl G0 0 rfl (cL c1) _ (fun _ h => h.c G0 25 c1 (by simp)) und17 rfl hi1) h24 ?_
  simp only [Act.put, List.setIfInBounds_toArray, List.set_cons_zero, List.set_cons_succ]
  refine hd_take 28 (some 98) (.agg (cA a1)) rfl rfl (by kernel_rfl) (by kernel_rfl) (by kernel_rfl) (fun _ _ _ h => h) (yieldsIf_load_mid (by rfl) _ _ rfl Ga 0 rfl (cellsOf a1) _ (fun _ h => h.a Ga 23 a1 (by simp)) und16 rfl hia) h24 ?_
  simp only [Act.put, List.setIfInBounds_toArray, List.set_cons_zero, List.set_cons_succ]
  refine wpAnyH_ready (rs := [29]) (by kernel_rfl) (by simp) (AllReadyH.cons rfl (fun K hK => ?_) AllReadyH.nil)
  go_simp
  go_wp2_with (go_at_call 11; refine (has_any c1 c1_len a1 a1_len _).mono ?_; rintro e x29 ⟨rfl, hb⟩; rw [h1]; have HC29 := Lib.hid (h24.on hb); clear hb)
  refine hK.out _ _ HC29.out (fun h29 => ?_)
  clear hK K HC29 h24
  refine hd_take 30 (some 100) (.bool true) rfl rfl (by kernel_rfl) (by kernel_rfl) (by kernel_rfl) (fun _ _ _ h => h) (Or.inl ⟨by rfl, fun w hw => by go_simp⟩) h29 ?_
  simp only [Act.put, List.setIfInBounds_toArray, List.set_cons_zero, List.set_cons_succ]
  refine hd_take 31 (some 101) (.bool true) rfl rfl (by kernel_rfl) (by kernel_rfl) (by kernel_rfl) (fun _ _ _ h => h) (Or.inl ⟨by rfl, fun w hw => by go_simp⟩) h29 ?_
  simp only [Act.put, List.setIfInBounds_toArray, List.set_cons_zero, List.set_cons_succ]
  refine hd_take 32 (some 102) (.agg c1.cells) rfl rfl (by kernel_rfl) (by kernel_rfl) (by kernel_rfl) (fun _ _ _ h => h) (yieldsIf_load_mid (by rfl) _ _ rfl G0 0 rfl (cL c1) _ (fun _ h => h.c G0 25 c1 (by simp)) und17 rfl hi1) h29 ?_
  simp only [Act.put, List.setIfInBounds_toArray, List.set_cons_zero, List.set_cons_succ]
  refine hd_take 33 (some 103) (.agg (cA (List.replicate 16 0))) rfl rfl (by kernel_rfl) (by kernel_rfl) (by kernel_rfl) (fun _ _ _ h => h) (Or.inl ⟨by rfl, fun w hw => by first | (go_simp; done) | kernel_rfl⟩) h29 ?_
  simp only [Act.put, List.setIfInBounds_toArray, List.set_cons_zero, List.set_cons_succ]
  refine wpAnyH_ready (rs := [34]) (by kernel_rfl) (by simp) (AllReadyH.cons rfl (fun K hK => ?_) AllReadyH.nil)
  go_simp
  go_wp2_with (go_at_call 11; refine (has_any c1 c1_len (List.replicate 16 0) rfl _).mono ?_; rintro e x34 ⟨rfl, hb⟩; rw [h2]; have HC34 := Lib.hid (h29.on hb); clear hb)
  refine hK.out _ _ HC34.out (fun h34 => ?_)
  clear hK K HC34 h29
  refine hd_take 35 (some 105) (.bool true) rfl rfl (by kernel_rfl) (by kernel_rfl) (by kernel_rfl) (fun _ _ _ h => h) (Or.inl ⟨by rfl, fun w hw => by go_simp⟩) h34 ?_
  simp only [Act.put, List.setIfInBounds_toArray, List.set_cons_zero, List.set_cons_succ]
  refine hd_take 36 (some 106) (.bool true) rfl rfl (by kernel_rfl) (by kernel_rfl) (by kernel_rfl) (fun _ _ _ h => h) (Or.inl ⟨by rfl, fun w hw => by go_simp⟩) h34 ?_
  simp only [Act.put, List.setIfInBounds_toArray, List.set_cons_zero, List.set_cons_succ]
  refine hd_take 37 (some 107) (.bool true) rfl rfl (by kernel_rfl) (by kernel_rfl) (by kernel_rfl) (fun _ _ _ h => h) (Or.inl ⟨by rfl, fun w hw => by go_simp⟩) h34 ?_
  simp only [Act.put, List.setIfInBounds_toArray, List.set_cons_zero, List.set_cons_succ]
  refine hd_take 38 (some 108) (.bool true) rfl rfl (by kernel_rfl) (by kernel_rfl) (by kernel_rfl) (fun _ _ _ h => h) (Or.inl ⟨by rfl, fun w hw => by go_simp⟩) h34 ?_
  simp only [Act.put, List.setIfInBounds_toArray, List.set_cons_zero, List.set_cons_succ]
  refine hd_take 39 (some 109) (.bool true) rfl rfl (by kernel_rfl) (by kernel_rfl) (by kernel_rfl) (fun _ _ _ h => h) (Or.inl ⟨by rfl, fun w hw => by go_simp⟩) h34 ?_
  simp only [Act.put, List.setIfInBounds_toArray, List.set_cons_zero, List.set_cons_succ]
  refine hd_take 40 (some 110) (.bool true) rfl rfl (by kernel_rfl) (by kernel_rfl) (by kernel_rfl) (fun _ _ _ h => h) (Or.inl ⟨by rfl, fun w hw => by go_simp⟩) h34 ?_
  simp only [Act.put, List.setIfInBounds_toArray, List.set_cons_zero, List.set_cons_succ]
  refine hd_take 41 (some 111) (.bool false) rfl rfl (by kernel_rfl) (by kernel_rfl) (by kernel_rfl) (fun _ _ _ h => h) (Or.inl ⟨by rfl, fun w hw => by go_simp⟩) h34 ?_
  simp only [Act.put, List.setIfInBounds_toArray, List.set_cons_zero, List.set_cons_succ]
  refine hd_take 42 (some 112) (.bool true) rfl rfl (by kernel_rfl) (by kernel_rfl) (by kernel_rfl) (fun _ _ _ h => h) (Or.inl ⟨by rfl, fun w hw => by go_simp⟩) h34 ?_
  simp only [Act.put, List.setIfInBounds_toArray, List.set_cons_zero, List.set_cons_succ]
  refine hd_take 43 (some 113) (.bool true) rfl rfl (by kernel_rfl) (by kernel_rfl) (by kernel_rfl) (fun _ _ _ h => h) (Or.inl ⟨by rfl, fun w hw => by go_simp⟩) h34 ?_
  simp only [Act.put, List.setIfInBounds_toArray, List.set_cons_zero, List.set_cons_succ]
  refine hd_take 44 (some 114) (.bool true) rfl rfl (by kernel_rfl) (by kernel_rfl) (by kernel_rfl) (fun _ _ _ h => h) (Or.inl ⟨by rfl, fun w hw => by go_simp⟩) h34 ?_
  simp only [Act.put, List.setIfInBounds_toArray, List.set_cons_zero, List.set_cons_succ]
  refine hd_take 45 (some 115) (.bool true) rfl rfl (by kernel_rfl) (by kernel_rfl) (by kernel_rfl) (fun _ _ _ h => h) (Or.inl ⟨by rfl, fun w hw => by go_simp⟩) h34 ?_
  simp only [Act.put, List.setIfInBounds_toArray, List.set_cons_zero, List.set_cons_succ]
  refine hd_take 46 (some 116) (.bool true) rfl rfl (by kernel_rfl) (by kernel_rfl) (by kernel_rfl) (fun _ _ _ h => h) (Or.inl ⟨by rfl, fun w hw => by go_simp⟩) h34 ?_
  simp only [Act.put, List.setIfInBounds_toArray, List.set_cons_zero, List.set_cons_succ]
  refine hd_take 47 (some 117) (.bool true) rfl rfl (by kernel_rfl) (by kernel_rfl) (by kernel_rfl) (fun _ _ _ h => h) (Or.inl ⟨by rfl, fun w hw => by go_simp⟩) h34 ?_
  simp only [Act.put, List.setIfInBounds_toArray, List.set_cons_zero, List.set_cons_succ]
  refine hd_take 48 (some 118) (.bool true) rfl rfl (by kernel_rfl) (by kernel_rfl) (by kernel_rfl) (fun _ _ _ h => h) (Or.inl ⟨by rfl, fun w hw => by go_simp⟩) h34 ?_
  simp only [Act.put, List.setIfInBounds_toArray, List.set_cons_zero, List.set_cons_succ]
  refine hd_take 49 (some 119) (.bool true) rfl rfl (by kernel_rfl) (by kernel_rfl) (by kernel_rfl) (fun _ _ _ h => h) (Or.inl ⟨by rfl, fun w hw => by go_simp⟩) h34 ?_
  simp only [Act.put, List.setIfInBounds_toArray, List.set_cons_zero, List.set_cons_succ]
  refine hd_take 50 (some 120) (.bool true) rfl rfl (by kernel_rfl) (by kernel_rfl) (by kernel_rfl) (fun _ _ _ h => h) (Or.inl ⟨by rfl, fun w hw => by go_simp⟩) h34 ?_
  simp only [Act.put, List.setIfInBounds_toArray, List.set_cons_zero, List.set_cons_succ]
  refine hd_take 51 (some 121) (.agg c1.cells) rfl rfl (by kernel_rfl) (by kernel_rfl) (by kernel_rfl) (fun _ _ _ h => h) (yieldsIf_load_mid (by rfl) _ _ rfl Gx 0 rfl (cL c1) _ (fun _ h => h.c Gx 25 c1 (by simp)) und17 rfl hi1) h34 ?_
  simp only [Act.put, List.setIfInBounds_toArray, List.set_cons_zero, List.set_cons_succ]
  refine hd_take 52 (some 122) (.agg c1.cells) rfl rfl (by kernel_rfl) (by kernel_rfl) (by kernel_rfl) (fun _ _ _ h => h) (yieldsIf_load_mid (by rfl) _ _ rfl G0 0 rfl (cL c1) _ (fun _ h => h.c G0 25 c1 (by simp)) und17 rfl hi1) h34 ?_
  simp only [Act.put, List.setIfInBounds_toArray, List.set_cons_zero, List.set_cons_succ]
  refine hd_take 53 (some 123) (.bool true) rfl rfl (by kernel_rfl) (by kernel_rfl) (by kernel_rfl) (fun _ _ _ h => h) (Or.inl ⟨by rfl, fun w hw => by first | (go_simp; done) | (show Sem.run _ (binOp BinOp.eql 25 (Value.agg c1.cells) (Value.agg c1.cells)) w = _; exact heq_c1 w)⟩) h34 ?_
  simp only [Act.put, List.setIfInBounds_toArray, List.set_cons_zero, List.set_cons_succ]
  refine hd_take 54 (some 124) (.bool true) rfl rfl (by kernel_rfl) (by kernel_rfl) (by kernel_rfl) (fun _ _ _ h => h) (Or.inl ⟨by rfl, fun w hw => by go_simp⟩) h34 ?_
  simp only [Act.put, List.setIfInBounds_toArray, List.set_cons_zero, List.set_cons_succ]
  refine hd_take 55 (some 125) (.bool true) rfl rfl (by kernel_rfl) (by kernel_rfl) (by kernel_rfl) (fun _ _ _ h => h) (Or.inl ⟨by rfl, fun w hw => by go_simp⟩) h34 ?_
  simp only [Act.put, List.setIfInBounds_toArray, List.set_cons_zero, List.set_cons_succ]
  refine hd_take 56 (some 126) (.bool true) rfl rfl (by kernel_rfl) (by kernel_rfl) (by kernel_rfl) (fun _ _ _ h => h) (Or.inl ⟨by rfl, fun w hw => by go_simp⟩) h34 ?_
  simp only [Act.put, List.setIfInBounds_toArray, List.set_cons_zero, List.set_cons_succ]
  refine hd_take 57 (some 127) (.bool true) rfl rfl (by kernel_rfl) (by kernel_rfl) (by kernel_rfl) (fun _ _ _ h => h) (Or.inl ⟨by rfl, fun w hw => by go_simp⟩) h34 ?_
  simp only [Act.put, List.setIfInBounds_toArray, List.set_cons_zero, List.set_cons_succ]
  refine hd_take 58 (some 128) (.bool true) rfl rfl (by kernel_rfl) (by kernel_rfl) (by kernel_rfl) (fun _ _ _ h => h) (Or.inl ⟨by rfl, fun w hw => by go_simp⟩) h34 ?_
  simp only [Act.put, List.setIfInBounds_toArray, List.set_cons_zero, List.set_cons_succ]
  refine hd_take 59 (some 129) (.bool true) rfl rfl (by kernel_rfl) (by kernel_rfl) (by kernel_rfl) (fun _ _ _ h => h) (Or.inl ⟨by rfl, fun w hw => by go_simp⟩) h34 ?_
  simp only [Act.put, List.setIfInBounds_toArray, List.set_cons_zero, List.set_cons_succ]
  refine hd_take 60 (some 130) (.bool true) rfl rfl (by kernel_rfl) (by kernel_rfl) (by kernel_rfl) (fun _ _ _ h => h) (Or.inl ⟨by rfl, fun w hw => by go_simp⟩) h34 ?_
  simp only [Act.put, List.setIfInBounds_toArray, List.set_cons_zero, List.set_cons_succ]
  refine hd_take 61 (some 131) (.bool true) rfl rfl (by kernel_rfl) (by kernel_rfl) (by kernel_rfl) (fun _ _ _ h => h) (Or.inl ⟨by rfl, fun w hw => by go_simp⟩) h34 ?_
  simp only [Act.put, List.setIfInBounds_toArray, List.set_cons_zero, List.set_cons_succ]
  refine hd_take 62 (some 132) (.agg c2.cells) rfl rfl (by kernel_rfl) (by kernel_rfl) (by kernel_rfl) (fun _ _ _ h => h) (yieldsIf_load_mid (by rfl) _ _ rfl Gy 0 rfl (cL c2) _ (fun _ h => h.c Gy 25 c2 (by simp)) und17 rfl hi2) h34 ?_
  simp only [Act.put, List.setIfInBounds_toArray, List.set_cons_zero, List.set_cons_succ]
  refine hd_take 63 (some 133) (.agg c2.cells) rfl rfl (by kernel_rfl) (by kernel_rfl) (by kernel_rfl) (fun _ _ _ h => h) (yieldsIf_load_mid (by rfl) _ _ rfl G1 0 rfl (cL c2) _ (fun _ h => h.c G1 25 c2 (by simp)) und17 rfl hi2) h34 ?_
  simp only [Act.put, List.setIfInBounds_toArray, List.set_cons_zero, List.set_cons_succ]
  refine hd_take 64 (some 134) (.bool true) rfl rfl (by kernel_rfl) (by kernel_rfl) (by kernel_rfl) (fun _ _ _ h => h) (Or.inl ⟨by rfl, fun w hw => by first | (go_simp; done) | (show Sem.run _ (binOp BinOp.eql 25 (Value.agg c2.cells) (Value.agg c2.cells)) w = _; exact heq_c2 w)⟩) h34 ?_
  simp only [Act.put, List.setIfInBounds_toArray, List.set_cons_zero, List.set_cons_succ]
  refine hd_take 65 (some 135) (.bool true) rfl rfl (by kernel_rfl) (by kernel_rfl) (by kernel_rfl) (fun _ _ _ h => h) (Or.inl ⟨by rfl, fun w hw => by go_simp⟩) h34 ?_
  simp only [Act.put, List.setIfInBounds_toArray, List.set_cons_zero, List.set_cons_succ]
  refine hd_take 66 (some 136) (.bool true) rfl rfl (by kernel_rfl) (by kernel_rfl) (by kernel_rfl) (fun _ _ _ h => h) (Or.inl ⟨by rfl, fun w hw => by go_simp⟩) h34 ?_
  simp only [Act.put, List.setIfInBounds_toArray, List.set_cons_zero, List.set_cons_succ]
  refine hd_take 67 (some 137) (.slice (some ⟨g, 0, none⟩) 1 cap) rfl rfl (by kernel_rfl) (by kernel_rfl) (by kernel_rfl) (fun _ _ _ h => h) (Or.inl ⟨by rfl, fun w hw => by go_simp⟩) h34 ?_
  simp only [Act.put, List.setIfInBounds_toArray, List.set_cons_zero, List.set_cons_succ]
  refine hd_take 68 (some 138) (.pointer (some ⟨g, 0, none⟩)) rfl rfl (by kernel_rfl) (by kernel_rfl) (by kernel_rfl) (fun _ _ _ h => h) (Or.inl ⟨by rfl, fun w hw => by go_simp⟩) h34 ?_
  simp only [Act.put, List.setIfInBounds_toArray, List.set_cons_zero, List.set_cons_succ]
  refine hd_take 69 (some 139) (.agg c2.cells) rfl rfl (by kernel_rfl) (by kernel_rfl) (by kernel_rfl) (fun _ _ _ h => h) (yieldsIf_load_mid (by rfl) _ _ rfl g 0 rfl (cL c2) _ (fun _ h => h.row) und17 rfl hi2) h34 ?_
  simp only [Act.put, List.setIfInBounds_toArray, List.set_cons_zero, List.set_cons_succ]
  refine hd_take 70 (some 140) (.agg c2.cells) rfl rfl (by kernel_rfl) (by kernel_rfl) (by kernel_rfl) (fun _ _ _ h => h) (yieldsIf_load_mid (by rfl) _ _ rfl G1 0 rfl (cL c2) _ (fun _ h => h.c G1 25 c2 (by simp)) und17 rfl hi2) h34 ?_
  simp only [Act.put, List.setIfInBounds_toArray, List.set_cons_zero, List.set_cons_succ]
  refine hd_take 71 (some 141) (.bool true) rfl rfl (by kernel_rfl) (by kernel_rfl) (by kernel_rfl) (fun _ _ _ h => h) (Or.inl ⟨by rfl, fun w hw => by first | (go_simp; done) | (show Sem.run _ (binOp BinOp.eql 25 (Value.agg c2.cells) (Value.agg c2.cells)) w = _; exact heq_c2 w)⟩) h34 ?_
  simp only [Act.put, List.setIfInBounds_toArray, List.set_cons_zero, List.set_cons_succ]
  refine hd_take 72 (some 142) (.bool true) rfl rfl (by kernel_rfl) (by kernel_rfl) (by kernel_rfl) (fun _ _ _ h => h) (Or.inl ⟨by rfl, fun w hw => by go_simp⟩) h34 ?_
  simp only [Act.put, List.setIfInBounds_toArray, List.set_cons_zero, List.set_cons_succ]
  refine hd_take 73 (some 143) (.bool true) rfl rfl (by kernel_rfl) (by kernel_rfl) (by kernel_rfl) (fun _ _ _ h => h) (Or.inl ⟨by rfl, fun w hw => by go_simp⟩) h34 ?_
  simp only [Act.put, List.setIfInBounds_toArray, List.set_cons_zero, List.set_cons_succ]
  refine hd_take 74 (some 144) (.agg (C.cells ⟨List.replicate 16 0, 129⟩)) rfl rfl (by kernel_rfl) (by kernel_rfl) (by kernel_rfl) (fun _ _ _ h => h) (Or.inl ⟨by rfl, fun w hw => by first | (go_simp; done) | kernel_rfl⟩) h34 ?_
  simp only [Act.put, List.setIfInBounds_toArray, List.set_cons_zero, List.set_cons_succ]
  refine wpAnyH_ready (rs := [75]) (by kernel_rfl) (by simp) (AllReadyH.cons rfl (fun K hK => ?_) AllReadyH.nil)
  go_simp
  go_wp2_with (go_at_call 9; refine (right_any ⟨List.replicate 16 0, 129⟩ rfl _).mono ?_; rintro e x75 ⟨rfl, hb⟩; rw [r3]; have HC75 := Lib.hid (h34.on hb); clear hb)
  refine hK.out _ _ HC75.out (fun h75 => ?_)
  clear hK K HC75 h34
  refine hd_take 76 (some 146) (.bool true) rfl rfl (by kernel_rfl) (by kernel_rfl) (by kernel_rfl) (fun _ _ _ h => h) (Or.inl ⟨by rfl, fun w hw => by go_simp⟩) h75 ?_
  simp only [Act.put, List.setIfInBounds_toArray, List.set_cons_zero, List.set_cons_succ]
  refine hd_take 77 (some 147) (.bool true) rfl rfl (by kernel_rfl) (by kernel_rfl) (by kernel_rfl) (fun _ _ _ h => h) (Or.inl ⟨by rfl, fun w hw => by go_simp⟩) h75 ?_
  simp only [Act.put, List.setIfInBounds_toArray, List.set_cons_zero, List.set_cons_succ]
  refine hd_take 78 (some 148) (.bool true) rfl rfl (by kernel_rfl) (by kernel_rfl) (by kernel_rfl) (fun _ _ _ h => h) (Or.inl ⟨by rfl, fun w hw => by go_simp⟩) h75 ?_
  simp only [Act.put, List.setIfInBounds_toArray, List.set_cons_zero, List.set_cons_succ]
  refine hd_take 79 (some 149) (.agg (cA a1)) rfl rfl (by kernel_rfl) (by kernel_rfl) (by kernel_rfl) (fun _ _ _ h => h) (yieldsIf_load_mid (by rfl) _ _ rfl Ga 0 rfl (cellsOf a1) _ (fun _ h => h.a Ga 23 a1 (by simp)) und16 rfl hia) h75 ?_
  simp only [Act.put, List.setIfInBounds_toArray, List.set_cons_zero, List.set_cons_succ]
  refine wpAnyH_ready (rs := [80]) (by kernel_rfl) (by simp) (AllReadyH.cons rfl (fun K hK => ?_) AllReadyH.nil)
  go_simp
  go_wp2_with (go_at_call 7; refine (of_any a1 a1_len 200 _).mono ?_; rintro e x80 ⟨rfl, hb⟩; have HC80 := Lib.hid (h75.on hb); clear hb)
  refine hK.out _ _ HC80.out (fun h80 => ?_)
  clear hK K HC80 h75
  refine hd_take 81 (some 151) (.int .i64 128) rfl rfl (by kernel_rfl) (by kernel_rfl) (by kernel_rfl) (fun _ _ _ h => h) (Or.inl ⟨by rfl, fun w hw => by first | (go_simp; done) | kernel_rfl⟩) h80 ?_
  simp only [Act.put, List.setIfInBounds_toArray, List.set_cons_zero, List.set_cons_succ]
  refine hd_take 82 (some 152) (.bool true) rfl rfl (by kernel_rfl) (by kernel_rfl) (by kernel_rfl) (fun _ _ _ h => h) (Or.inl ⟨by rfl, fun w hw => by go_simp⟩) h80 ?_
  simp only [Act.put, List.setIfInBounds_toArray, List.set_cons_zero, List.set_cons_succ]
  refine hd_take 83 (some 153) (.bool true) rfl rfl (by kernel_rfl) (by kernel_rfl) (by kernel_rfl) (fun _ _ _ h => h) (Or.inl ⟨by rfl, fun w hw => by go_simp⟩) h80 ?_
  simp only [Act.put, List.setIfInBounds_toArray, List.set_cons_zero, List.set_cons_succ]
  refine hd_take 84 (some 0) (.bool true) rfl rfl (by kernel_rfl) (by kernel_rfl) (by kernel_rfl) (fun _ _ _ h => h) (Or.inl ⟨by rfl, fun w hw => by go_simp⟩) h80 ?_
  simp only [Act.put, List.setIfInBounds_toArray, List.set_cons_zero, List.set_cons_succ]
  refine wpAnyH_done (by kernel_rfl) ?_ _
  have HF := Lib.hid h80.loc.low
  go_wp2_with fail
  go_ret
  exact ⟨rfl, HF.out⟩
end Go.Proofs.YtialcnioeeikpaaGreatDoor.Ad
