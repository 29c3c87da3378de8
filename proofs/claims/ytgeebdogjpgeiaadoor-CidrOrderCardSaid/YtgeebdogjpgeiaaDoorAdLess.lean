/-
  Contract of hagioscoperef04's Less over this seat's translation.
-/
import Derived.Test.YtgeebdogjpgeiaaDoorAdOrderP
import Derived.Test.YtgeebdogjpgeiaaDoorAdShort
import Derived.Test.YtgeebdogjpgeiaaDoorAdCmp
namespace Go.Proofs.YtgeebdogjpgeiaaDoor.Ad
open Go.RowKit Go.Proofs.YtgeebdogjpgeiaaDoor.Wd

theorem take_next' {l : List UInt8} {i : Nat} {c : UInt8} (h : l[i]? = some c) : l.take (i + 1) = l.take i ++ [c] := by
  rw [List.take_add_one, h]; rfl
set_option linter.unusedSimpArgs false in
set_option maxRecDepth 100000 in
set_option maxHeartbeats 4000000 in
theorem less_any (c d : C) (hc : c.a.length = 16) (hd : d.a.length = 16) (w : World) :
    Calls Tryd.prog 17 #[.agg c.cells, .agg d.cells] w fun e w' => (∃ r : Bool, e = .returned (.bool r) ∧ (r = true ↔ Ahead c d)) ∧ Below w.heap.size w w' := by
  go_enter Tryd.func17, Tryd.ntmps17
  go_wp2_with fail
  go_loopw [5] (fun i w' => ∃ k : Nat, k ≤ 16 ∧ i = .int .i64 (k : Int) ∧ c.a.take k = d.a.take k ∧ Blk w' w.heap.size 25 c.cells ∧ Blk w' (w.heap.size + 1) 25 d.cells ∧ Below w.heap.size w w') (fun i _ => 16 - (intOf i).toNat)
  case atStart => exact ⟨0, by omega, rfl, rfl, (Blk.new _ _ _).alloc _, blk_at _ _ _ _ _ (by rw [alloc_size]) rfl, ((Below.refl _ _).alloc (Nat.le_refl _) _).alloc (by simp) _⟩
  case round =>
    obtain ⟨k, hk, rfl, hp, b0, b1, hbel⟩ := hrel
    generalize hG : w.heap.size = G at *
    by_cases hk16 : k < 16
    · have hd2 : decide ((k : Int) < 16) = true := decide_eq_true (by omega)
      obtain ⟨x, hx⟩ : ∃ x, c.a[k]? = some x := ⟨_, List.getElem?_eq_getElem (by omega)⟩
      obtain ⟨y, hy⟩ : ∃ y, d.a[k]? = some y := ⟨_, List.getElem?_eq_getElem (by omega)⟩
      have cx : wr.cell? ⟨G, k, none⟩ = some (.int .u8 (x.toNat : Int)) := range_a (rangeC b0) k _ (cellsOf_get hx) |> fun h => by simpa [b8] using h
      have cy : wr.cell? ⟨G + 1, k, none⟩ = some (.int .u8 (y.toNat : Int)) := range_a (rangeC b1) k _ (cellsOf_get hy) |> fun h => by simpa [b8] using h
      have HB := Lib.hid (And.intro b0 (And.intro b1 hbel))
      have HP := Lib.hid hp
      have HXY := Lib.hid (And.intro hx hy)
      clear b0 b1 hbel hp hx hy
      by_cases hxy : x = y
      · subst hxy
        go_wp2_with fail
        refine wp_region_held_drew (S := fun w' => w' = wr.drew) (by kernel_rfl) rfl (fun h0 => ?_)
        refine hd_take 0 (some 10) (.int .i64 (k : Int)) rfl rfl (by kernel_rfl) (by kernel_rfl) (by kernel_rfl) (fun _ _ _ h => h) (Or.inl ⟨by rfl, fun w hw => by subst hw; first | (go_simp; done) | (go_simp; intro hbad; omega)⟩) h0 ?_
        simp only [Act.put, List.setIfInBounds_toArray, List.set_cons_zero, List.set_cons_succ]
        refine hd_take 1 (some 11) (.pointer (some ⟨G, 0, none⟩)) rfl rfl (by kernel_rfl) (by kernel_rfl) (by kernel_rfl) (fun _ _ _ h => h) (Or.inl ⟨by rfl, fun w hw => by subst hw; first | (go_simp; done) | (go_simp; intro hbad; omega)⟩) h0 ?_
        simp only [Act.put, List.setIfInBounds_toArray, List.set_cons_zero, List.set_cons_succ]
        refine hd_take 2 (some 12) (.pointer (some ⟨G, k, none⟩)) rfl rfl (by kernel_rfl) (by kernel_rfl) (by kernel_rfl) (fun _ _ _ h => h) (Or.inl ⟨by rfl, fun w hw => by subst hw; first | (go_simp; done) | (go_simp; intro hbad; omega)⟩) h0 ?_
        simp only [Act.put, List.setIfInBounds_toArray, List.set_cons_zero, List.set_cons_succ]
        refine hd_take 3 (some 13) (.int .u8 (x.toNat : Int)) rfl rfl (by kernel_rfl) (by kernel_rfl) (by kernel_rfl) (fun _ _ _ h => h) (Or.inl ⟨by rfl, fun w hw => by subst hw; first | (go_simp; done) | (go_simp; intro hbad; omega)⟩) h0 ?_
        simp only [Act.put, List.setIfInBounds_toArray, List.set_cons_zero, List.set_cons_succ]
        refine hd_take 4 (some 14) (.int .i64 (k : Int)) rfl rfl (by kernel_rfl) (by kernel_rfl) (by kernel_rfl) (fun _ _ _ h => h) (Or.inl ⟨by rfl, fun w hw => by subst hw; first | (go_simp; done) | (go_simp; intro hbad; omega)⟩) h0 ?_
        simp only [Act.put, List.setIfInBounds_toArray, List.set_cons_zero, List.set_cons_succ]
        refine hd_take 5 (some 15) (.pointer (some ⟨G + 1, 0, none⟩)) rfl rfl (by kernel_rfl) (by kernel_rfl) (by kernel_rfl) (fun _ _ _ h => h) (Or.inl ⟨by rfl, fun w hw => by subst hw; first | (go_simp; done) | (go_simp; intro hbad; omega)⟩) h0 ?_
        simp only [Act.put, List.setIfInBounds_toArray, List.set_cons_zero, List.set_cons_succ]
        refine hd_take 6 (some 16) (.pointer (some ⟨G + 1, k, none⟩)) rfl rfl (by kernel_rfl) (by kernel_rfl) (by kernel_rfl) (fun _ _ _ h => h) (Or.inl ⟨by rfl, fun w hw => by subst hw; first | (go_simp; done) | (go_simp; intro hbad; omega)⟩) h0 ?_
        simp only [Act.put, List.setIfInBounds_toArray, List.set_cons_zero, List.set_cons_succ]
        refine hd_take 7 (some 17) (.int .u8 (x.toNat : Int)) rfl rfl (by kernel_rfl) (by kernel_rfl) (by kernel_rfl) (fun _ _ _ h => h) (Or.inl ⟨by rfl, fun w hw => by subst hw; first | (go_simp; done) | (go_simp; intro hbad; omega)⟩) h0 ?_
        simp only [Act.put, List.setIfInBounds_toArray, List.set_cons_zero, List.set_cons_succ]
        refine hd_take 8 (some 18) (.bool false) rfl rfl (by kernel_rfl) (by kernel_rfl) (by kernel_rfl) (fun _ _ _ h => h) (Or.inl ⟨by rfl, fun w hw => by subst hw; first | (go_simp; done) | (go_simp; intro hbad; omega)⟩) h0 ?_
        simp only [Act.put, List.setIfInBounds_toArray, List.set_cons_zero, List.set_cons_succ]
        refine wpAnyH_done (by kernel_rfl) ?_ _
        clear h0
        go_wp2_with fail
        go_roundw
        case rel => exact ⟨k + 1, by omega, by go_num, by rw [take_next' HXY.out.1, take_next' HXY.out.2, HP.out], HB.out.1, HB.out.2.1, HB.out.2.2.drew⟩
        case measure => simp [intOf]; omega
      · have hne : ((x.toNat : Int) != (y.toNat : Int)) = true := by
          have : (x.toNat : Int) ≠ (y.toNat : Int) := fun e => hxy (UInt8.toNat.inj (by omega))
          simpa using this
        have HA := Lib.hid (ahead_at c d (by rw [hc, hd]) k x y HXY.out.1 HXY.out.2 HP.out hxy)
        clear hxy
        go_wp2_with fail
        refine wp_region_held_drew (S := fun w' => w' = wr.drew) (by kernel_rfl) rfl (fun h0 => ?_)
        refine hd_take 0 (some 10) (.int .i64 (k : Int)) rfl rfl (by kernel_rfl) (by kernel_rfl) (by kernel_rfl) (fun _ _ _ h => h) (Or.inl ⟨by rfl, fun w hw => by subst hw; first | (go_simp; done) | (go_simp; intro hbad; omega)⟩) h0 ?_
        simp only [Act.put, List.setIfInBounds_toArray, List.set_cons_zero, List.set_cons_succ]
        refine hd_take 1 (some 11) (.pointer (some ⟨G, 0, none⟩)) rfl rfl (by kernel_rfl) (by kernel_rfl) (by kernel_rfl) (fun _ _ _ h => h) (Or.inl ⟨by rfl, fun w hw => by subst hw; first | (go_simp; done) | (go_simp; intro hbad; omega)⟩) h0 ?_
        simp only [Act.put, List.setIfInBounds_toArray, List.set_cons_zero, List.set_cons_succ]
        refine hd_take 2 (some 12) (.pointer (some ⟨G, k, none⟩)) rfl rfl (by kernel_rfl) (by kernel_rfl) (by kernel_rfl) (fun _ _ _ h => h) (Or.inl ⟨by rfl, fun w hw => by subst hw; first | (go_simp; done) | (go_simp; intro hbad; omega)⟩) h0 ?_
        simp only [Act.put, List.setIfInBounds_toArray, List.set_cons_zero, List.set_cons_succ]
        refine hd_take 3 (some 13) (.int .u8 (x.toNat : Int)) rfl rfl (by kernel_rfl) (by kernel_rfl) (by kernel_rfl) (fun _ _ _ h => h) (Or.inl ⟨by rfl, fun w hw => by subst hw; first | (go_simp; done) | (go_simp; intro hbad; omega)⟩) h0 ?_
        simp only [Act.put, List.setIfInBounds_toArray, List.set_cons_zero, List.set_cons_succ]
        refine hd_take 4 (some 14) (.int .i64 (k : Int)) rfl rfl (by kernel_rfl) (by kernel_rfl) (by kernel_rfl) (fun _ _ _ h => h) (Or.inl ⟨by rfl, fun w hw => by subst hw; first | (go_simp; done) | (go_simp; intro hbad; omega)⟩) h0 ?_
        simp only [Act.put, List.setIfInBounds_toArray, List.set_cons_zero, List.set_cons_succ]
        refine hd_take 5 (some 15) (.pointer (some ⟨G + 1, 0, none⟩)) rfl rfl (by kernel_rfl) (by kernel_rfl) (by kernel_rfl) (fun _ _ _ h => h) (Or.inl ⟨by rfl, fun w hw => by subst hw; first | (go_simp; done) | (go_simp; intro hbad; omega)⟩) h0 ?_
        simp only [Act.put, List.setIfInBounds_toArray, List.set_cons_zero, List.set_cons_succ]
        refine hd_take 6 (some 16) (.pointer (some ⟨G + 1, k, none⟩)) rfl rfl (by kernel_rfl) (by kernel_rfl) (by kernel_rfl) (fun _ _ _ h => h) (Or.inl ⟨by rfl, fun w hw => by subst hw; first | (go_simp; done) | (go_simp; intro hbad; omega)⟩) h0 ?_
        simp only [Act.put, List.setIfInBounds_toArray, List.set_cons_zero, List.set_cons_succ]
        refine hd_take 7 (some 17) (.int .u8 (y.toNat : Int)) rfl rfl (by kernel_rfl) (by kernel_rfl) (by kernel_rfl) (fun _ _ _ h => h) (Or.inl ⟨by rfl, fun w hw => by subst hw; first | (go_simp; done) | (go_simp; intro hbad; omega)⟩) h0 ?_
        simp only [Act.put, List.setIfInBounds_toArray, List.set_cons_zero, List.set_cons_succ]
        refine hd_take 8 (some 18) (.bool true) rfl rfl (by kernel_rfl) (by kernel_rfl) (by kernel_rfl) (fun _ _ _ h => h) (Or.inl ⟨by rfl, fun w hw => by subst hw; first | (go_simp; done) | (go_simp; intro hbad; omega)⟩) h0 ?_
        simp only [Act.put, List.setIfInBounds_toArray, List.set_cons_zero, List.set_cons_succ]
        refine wpAnyH_done (by kernel_rfl) ?_ _
        clear h0
        go_wp2_with fail
        refine wp_region_held_drew (S := fun w' => w' = wr.drew.drew) (by kernel_rfl) rfl (fun h0 => ?_)
        refine hd_take 0 (some 19) (.int .i64 (k : Int)) rfl rfl (by kernel_rfl) (by kernel_rfl) (by kernel_rfl) (fun _ _ _ h => h) (Or.inl ⟨by rfl, fun w hw => by subst hw; first | (go_simp; done) | (go_simp; intro hbad; omega)⟩) h0 ?_
        simp only [Act.put, List.setIfInBounds_toArray, List.set_cons_zero, List.set_cons_succ]
        refine hd_take 1 (some 20) (.pointer (some ⟨G, 0, none⟩)) rfl rfl (by kernel_rfl) (by kernel_rfl) (by kernel_rfl) (fun _ _ _ h => h) (Or.inl ⟨by rfl, fun w hw => by subst hw; first | (go_simp; done) | (go_simp; intro hbad; omega)⟩) h0 ?_
        simp only [Act.put, List.setIfInBounds_toArray, List.set_cons_zero, List.set_cons_succ]
        refine hd_take 2 (some 21) (.pointer (some ⟨G, k, none⟩)) rfl rfl (by kernel_rfl) (by kernel_rfl) (by kernel_rfl) (fun _ _ _ h => h) (Or.inl ⟨by rfl, fun w hw => by subst hw; first | (go_simp; done) | (go_simp; intro hbad; omega)⟩) h0 ?_
        simp only [Act.put, List.setIfInBounds_toArray, List.set_cons_zero, List.set_cons_succ]
        refine hd_take 3 (some 22) (.int .u8 (x.toNat : Int)) rfl rfl (by kernel_rfl) (by kernel_rfl) (by kernel_rfl) (fun _ _ _ h => h) (Or.inl ⟨by rfl, fun w hw => by subst hw; first | (go_simp; done) | (go_simp; intro hbad; omega)⟩) h0 ?_
        simp only [Act.put, List.setIfInBounds_toArray, List.set_cons_zero, List.set_cons_succ]
        refine hd_take 4 (some 23) (.int .i64 (k : Int)) rfl rfl (by kernel_rfl) (by kernel_rfl) (by kernel_rfl) (fun _ _ _ h => h) (Or.inl ⟨by rfl, fun w hw => by subst hw; first | (go_simp; done) | (go_simp; intro hbad; omega)⟩) h0 ?_
        simp only [Act.put, List.setIfInBounds_toArray, List.set_cons_zero, List.set_cons_succ]
        refine hd_take 5 (some 24) (.pointer (some ⟨G + 1, 0, none⟩)) rfl rfl (by kernel_rfl) (by kernel_rfl) (by kernel_rfl) (fun _ _ _ h => h) (Or.inl ⟨by rfl, fun w hw => by subst hw; first | (go_simp; done) | (go_simp; intro hbad; omega)⟩) h0 ?_
        simp only [Act.put, List.setIfInBounds_toArray, List.set_cons_zero, List.set_cons_succ]
        refine hd_take 6 (some 25) (.pointer (some ⟨G + 1, k, none⟩)) rfl rfl (by kernel_rfl) (by kernel_rfl) (by kernel_rfl) (fun _ _ _ h => h) (Or.inl ⟨by rfl, fun w hw => by subst hw; first | (go_simp; done) | (go_simp; intro hbad; omega)⟩) h0 ?_
        simp only [Act.put, List.setIfInBounds_toArray, List.set_cons_zero, List.set_cons_succ]
        refine hd_take 7 (some 26) (.int .u8 (y.toNat : Int)) rfl rfl (by kernel_rfl) (by kernel_rfl) (by kernel_rfl) (fun _ _ _ h => h) (Or.inl ⟨by rfl, fun w hw => by subst hw; first | (go_simp; done) | (go_simp; intro hbad; omega)⟩) h0 ?_
        simp only [Act.put, List.setIfInBounds_toArray, List.set_cons_zero, List.set_cons_succ]
        refine hd_take 8 (some 27) (.bool (decide ((x.toNat : Int) < (y.toNat : Int)))) rfl rfl (by kernel_rfl) (by kernel_rfl) (by kernel_rfl) (fun _ _ _ h => h) (Or.inl ⟨by rfl, fun w hw => by subst hw; first | (go_simp; done) | (go_simp; intro hbad; omega)⟩) h0 ?_
        simp only [Act.put, List.setIfInBounds_toArray, List.set_cons_zero, List.set_cons_succ]
        refine hd_take 9 (some 4) (.bool (decide ((x.toNat : Int) < (y.toNat : Int)))) rfl rfl (by kernel_rfl) (by kernel_rfl) (by kernel_rfl) (fun _ _ _ h => h) (Or.inl ⟨by rfl, fun w hw => by subst hw; first | (go_simp; done) | (go_simp; intro hbad; omega)⟩) h0 ?_
        simp only [Act.put, List.setIfInBounds_toArray, List.set_cons_zero, List.set_cons_succ]
        refine wpAnyH_done (by kernel_rfl) ?_ _
        clear h0
        go_wp2_with fail
        go_ret
        refine ⟨⟨_, rfl, ?_⟩, ?_⟩
        · rw [HA.out, decide_eq_true_iff]
          show (x.toNat : Int) < (y.toNat : Int) ↔ x.toNat < y.toNat
          omega
        · rw [hG]; exact HB.out.2.2.trans ((Below.refl _ _).drew.drew)
    · obtain rfl : k = 16 := by omega
      have ha : c.a = d.a := by
        rw [List.take_of_length_le (by omega), List.take_of_length_le (by omega)] at hp
        exact hp
      have n0 := C_cell16' b0 hc
      have n1 := C_cell16' b1 hd
      have HA := Lib.hid (ahead_end c d ha)
      have HB := Lib.hid hbel
      clear b0 b1 hbel hp ha
      go_wp2_with fail
      go_ret
      refine ⟨⟨_, rfl, ?_⟩, ?_⟩
      · rw [HA.out, decide_eq_true_iff]
      · rw [hG]; first | exact HB.out.drew | exact HB.out
end Go.Proofs.YtgeebdogjpgeiaaDoor.Ad
