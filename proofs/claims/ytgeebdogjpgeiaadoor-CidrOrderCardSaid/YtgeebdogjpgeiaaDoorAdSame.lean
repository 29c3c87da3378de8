/-
  Contract of hagioscoperef04's Same at one row of Cidrs in two blocks, over this seat's translation.
-/
import Derived.Test.YtgeebdogjpgeiaaDoorAdAllP
import Derived.Test.YtgeebdogjpgeiaaDoorAdHas
import Derived.Test.YtgeebdogjpgeiaaDoorAdEnv
namespace Go.Proofs.YtgeebdogjpgeiaaDoor.Ad
open Go.RowKit Go.Sort Go.Proofs.YtgeebdogjpgeiaaDoor.Wd

theorem RowC.below {w w' : World} {g B : Nat} {M : List C16} (h : RowC w g M) (hb : Below B w w') (hg : g < B) : RowC w' g M := fun i c hi j v hj =>
  (hb.cell (p := ⟨g, i * 17 + j, none⟩) hg).trans (h i c hi j v hj)
theorem neq17 (c : C) (hc : c.a.length = 16) (w : World) : (binOp .neq 25 (.agg c.cells) (.agg c.cells)).run Tryd.prog w = .ok (.bool false) w := by
  rw [run_neq_struct, eqIn17n _ (by omega) c c hc hc w, Result.andThen_ok]
  simp
set_option linter.unusedSimpArgs false in
set_option maxRecDepth 100000 in
set_option maxHeartbeats 4000000 in
theorem same_any (M : List C16) (hM : M.length ≤ 1000) (g1 g2 cap1 cap2 : Nat) (w : World) (h1 : RowC w g1 M) (h2 : RowC w g2 M) (l1 : g1 < w.heap.size) (l2 : g2 < w.heap.size) :
    Calls Tryd.prog 18 #[.slice (some ⟨g1, 0, none⟩) M.length cap1, .slice (some ⟨g2, 0, none⟩) M.length cap2] w fun e w' => e = .returned (.bool true) ∧ Below w.heap.size w w' := by
  go_enter Tryd.func18, Tryd.ntmps18
  go_wp2_with fail
  go_loopw [5] (fun i w' => ∃ k : Nat, k ≤ M.length ∧ i = .int .i64 (k : Int) ∧ Below w.heap.size w w') (fun i _ => M.length - (intOf i).toNat)
  case atStart => exact ⟨0, by omega, rfl, Below.refl _ _⟩
  case round =>
    obtain ⟨k, hk, rfl, hbel⟩ := hrel
    by_cases hkn : k < M.length
    · have hd2 : decide ((k : Int) < (M.length : Int)) = true := decide_eq_true (by omega)
      obtain ⟨c, hc⟩ : ∃ c, M[k]? = some c := ⟨_, List.getElem?_eq_getElem (by omega)⟩
      have HE := Lib.hid (And.intro ((World.rangeAt_drew _ _ _ _).2 (h1.below hbel l1 k c hc)) ((World.rangeAt_drew _ _ _ _).2 (h2.below hbel l2 k c hc)))
      have HI := Lib.hid (show (Tryd.prog.info? 25).map (·.size) = some (cL c.1).length from by rw [cL_len c.1 c.2]; exact info17)
      have heqc := neq17 c.1 c.2
      have HL := Lib.hid hbel
      clear hbel hc h1 h2
      go_wp2_with fail
      refine wp_region_held_drew (S := fun w' => w'.rangeAt g1 (k * 17) (cL c.1) ∧ w'.rangeAt g2 (k * 17) (cL c.1)) (by kernel_rfl) HE.out (fun h0 => ?_)
      refine hd_take 0 (some 17) (.slice (some ⟨g1, 0, none⟩) M.length cap1) rfl rfl (by kernel_rfl) (by kernel_rfl) (by kernel_rfl) (fun _ _ _ h => h) (Or.inl ⟨by rfl, fun w hw => by first | (go_simp; done) | (go_simp; intro hbad; omega)⟩) h0 ?_
      simp only [Act.put, List.setIfInBounds_toArray, List.set_cons_zero, List.set_cons_succ]
      refine hd_take 1 (some 18) (.int .i64 (k : Int)) rfl rfl (by kernel_rfl) (by kernel_rfl) (by kernel_rfl) (fun _ _ _ h => h) (Or.inl ⟨by rfl, fun w hw => by first | (go_simp; done) | (go_simp; intro hbad; omega)⟩) h0 ?_
      simp only [Act.put, List.setIfInBounds_toArray, List.set_cons_zero, List.set_cons_succ]
      refine hd_take 2 (some 19) (.pointer (some ⟨g1, k * 17, none⟩)) rfl rfl (by kernel_rfl) (by kernel_rfl) (by kernel_rfl) (fun _ _ _ h => h) (Or.inl ⟨by rfl, fun w hw => by first | (go_simp; done) | (go_simp; intro hbad; omega)⟩) h0 ?_
      simp only [Act.put, List.setIfInBounds_toArray, List.set_cons_zero, List.set_cons_succ]
      refine hd_take 3 (some 20) (.agg c.1.cells) rfl rfl (by kernel_rfl) (by kernel_rfl) (by kernel_rfl) (fun _ _ _ h => h) (yieldsIf_load_mid (by rfl) _ _ rfl g1 (k * 17) rfl (cL c.1) _ (fun _ h => h.1) und17 rfl HI.out) h0 ?_
      simp only [Act.put, List.setIfInBounds_toArray, List.set_cons_zero, List.set_cons_succ]
      refine hd_take 4 (some 21) (.slice (some ⟨g2, 0, none⟩) M.length cap2) rfl rfl (by kernel_rfl) (by kernel_rfl) (by kernel_rfl) (fun _ _ _ h => h) (Or.inl ⟨by rfl, fun w hw => by first | (go_simp; done) | (go_simp; intro hbad; omega)⟩) h0 ?_
      simp only [Act.put, List.setIfInBounds_toArray, List.set_cons_zero, List.set_cons_succ]
      refine hd_take 5 (some 22) (.int .i64 (k : Int)) rfl rfl (by kernel_rfl) (by kernel_rfl) (by kernel_rfl) (fun _ _ _ h => h) (Or.inl ⟨by rfl, fun w hw => by first | (go_simp; done) | (go_simp; intro hbad; omega)⟩) h0 ?_
      simp only [Act.put, List.setIfInBounds_toArray, List.set_cons_zero, List.set_cons_succ]
      refine hd_take 6 (some 23) (.pointer (some ⟨g2, k * 17, none⟩)) rfl rfl (by kernel_rfl) (by kernel_rfl) (by kernel_rfl) (fun _ _ _ h => h) (Or.inl ⟨by rfl, fun w hw => by first | (go_simp; done) | (go_simp; intro hbad; omega)⟩) h0 ?_
      simp only [Act.put, List.setIfInBounds_toArray, List.set_cons_zero, List.set_cons_succ]
      refine hd_take 7 (some 24) (.agg c.1.cells) rfl rfl (by kernel_rfl) (by kernel_rfl) (by kernel_rfl) (fun _ _ _ h => h) (yieldsIf_load_mid (by rfl) _ _ rfl g2 (k * 17) rfl (cL c.1) _ (fun _ h => h.2) und17 rfl HI.out) h0 ?_
      simp only [Act.put, List.setIfInBounds_toArray, List.set_cons_zero, List.set_cons_succ]
      refine hd_take 8 (some 25) (.bool false) rfl rfl (by kernel_rfl) (by kernel_rfl) (by kernel_rfl) (fun _ _ _ h => h) (Or.inl ⟨by rfl, fun w hw => by first | (go_simp; done) | (go_simp; intro hbad; omega)⟩) h0 ?_
      simp only [Act.put, List.setIfInBounds_toArray, List.set_cons_zero, List.set_cons_succ]
      refine wpAnyH_done (by kernel_rfl) ?_ _
      clear h0 HE
      go_wp2_with fail
      go_roundw
      case rel => exact ⟨k + 1, by omega, by go_num, HL.out.drew⟩
      case measure => simp [intOf]; omega
    · have hd2 : decide ((k : Int) < (M.length : Int)) = false := decide_eq_false (by omega)
      have HL := Lib.hid hbel
      clear hbel h1 h2
      go_wp2_with fail
      go_ret
      exact ⟨rfl, HL.out⟩
end Go.Proofs.YtgeebdogjpgeiaaDoor.Ad
