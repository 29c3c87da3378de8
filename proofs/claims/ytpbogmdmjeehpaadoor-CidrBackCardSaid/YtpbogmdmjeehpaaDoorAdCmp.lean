/-
  Contract of package cidr's compare over this seat's translation.
-/
import Derived.Test.YtpbogmdmjeehpaaDoorAdHas
import Derived.Test.YtpbogmdmjeehpaaDoorShelf
import Derived.Lib.BytesEntry
import Derived.Deep.Cut
import Derived.Sort.Grow
namespace Go.Proofs.YtpbogmdmjeehpaaDoor.Ad
open Go.RowKit Go.Proofs.YtpbogmdmjeehpaaDoor.Wd

/-- which of two stands first -/
def cmpC (c d : C) : Int := if Lib.compareBytes c.a d.a ≠ 0 then Lib.compareBytes c.a d.a else Lib.compareInt c.n d.n

theorem C_cell16' {w : World} {g t : Nat} {c : C} (h : Blk w g t c.cells) (hc : c.a.length = 16) : w.cell? ⟨g, 16, none⟩ = some (.int .i64 c.n) := by
  rw [h.cell]; simp [C.cells, cellsOf_length, hc]
theorem bytes_src {P : Program} {w : World} {A : Option Addr} {n c : Nat} {xs : List UInt8} (h : Src w A n xs) : (Extern.Bytes.bytesOf (.slice A n c)).run P w = .ok ⟨xs.toArray⟩ w := by
  obtain ⟨hl, hc⟩ := h
  cases A with
  | none =>
    have : xs = [] := by
      cases xs with
      | nil => rfl
      | cons x xs => obtain ⟨ad, e, _⟩ := hc (by rw [← hl]; simp); cases e
    subst this
    rfl
  | some a =>
    have hr := Lib.run_loadBytesX (P := P) (w := w) (xs.map fun c => (c.toNat : Int)) a .empty (fun j x hx => by
      simp only [List.getElem?_map, Option.map_eq_some_iff] at hx
      obtain ⟨y, hy, rfl⟩ := hx
      have hj := (List.getElem?_eq_some_iff.1 hy).1
      obtain ⟨ad, e, _, hcc⟩ := hc (by omega)
      injection e with e
      subst e
      exact hcc j y hy)
    rw [List.length_map, hl] at hr
    show (Extern.Bytes.loadBytes a n .empty).run P w = _
    rw [hr]
    congr 2
    simp [Lib.bytesOf, List.map_map, Function.comp_def]

theorem bcmp_any {A A' : Option Addr} {n c n' c' : Nat} {xs ys : List UInt8} (w : World) (hx : Src w A n xs) (hy : Src w A' n' ys) :
    Calls Tryd.prog 41 #[.slice A n c, .slice A' n' c'] w fun e w' => e = .returned (.int .i64 (Lib.compareBytes xs ys)) ∧ w' = w := by
  have hrun : (callFunc 59 #[.slice A n c, .slice A' n' c']).run Tryd.prog w = .ok (.value (.int .i64 (Lib.compareBytes xs ys))) w := by
    rw [run_callFunc_extern Tryd.func59 (by kernel_rfl) (by kernel_rfl) (by kernel_rfl) (e := Extern.BytealgCompare.compare) (by kernel_rfl)]
    have hc : (Extern.BytealgCompare.compare #[.slice A n c, .slice A' n' c']).run Tryd.prog w = .ok (.int .i64 (Lib.compareBytes xs ys)) w := by
      change Sem.run Tryd.prog (do pure (goInt (Extern.BytealgCompare.cmp (← Extern.Bytes.bytesOf (.slice A n c)) (← Extern.Bytes.bytesOf (.slice A' n' c'))))) w = _
      simp only [Sem.run_bind, Sem.run_pure, Result.andThen_ok, bytes_src hx, bytes_src hy]
      rw [Lib.cmp_eq]
      rfl
    rw [hc]
    rfl
  clear hx hy
  generalize Lib.compareBytes xs ys = R at *
  go_enter Tryd.func41, Tryd.ntmps41
  go_wp2
  go_ret
  exact ⟨rfl, rfl⟩

theorem src_cells {w : World} {g t : Nat} {c : C} (h : Blk w g t c.cells) (hc : c.a.length = 16) : Src w (some ⟨g, 0, none⟩) 16 c.a := by
  have := Src.of_blk (off := 0) (xs := c.a) h (fun j x hj => by
    have hjl : j < c.a.length := (List.getElem?_eq_some_iff.1 hj).1
    simp only [Nat.zero_add, C.cells, List.getElem?_toArray]
    rw [List.getElem?_append_left (by rw [cellsOf_length]; exact hjl)]
    exact cellsOf_get hj)
  rwa [hc] at this
theorem two_grow (w : World) (o o' : Obj) : ((w.alloc o).alloc o').drew = Sort.grow (w.drewN 1) #[o, o'] := by
  rw [Sort.alloc_eq_grow, Sort.alloc_eq_grow, Sort.grow_grow]
  rfl

set_option linter.unusedSimpArgs false in
set_option maxRecDepth 100000 in
set_option maxHeartbeats 2000000 in
theorem compare_any (c d : C) (hc : c.a.length = 16) (hd : d.a.length = 16) (w : World) :
    Calls Tryd.prog 25 #[.agg c.cells, .agg d.cells] w fun e w' => e = .returned (.int .i64 (cmpC c d)) ∧ ∃ q os', w' = Sort.grow (w.drewN q) os' := by
  have hcm := fun w => Tryd.cmp_Compare_int c.n d.n w
  have HF := Lib.hid (show cmpC c d = if Lib.compareBytes c.a d.a ≠ 0 then Lib.compareBytes c.a d.a else Lib.compareInt c.n d.n from rfl)
  go_enter Tryd.func25, Tryd.ntmps25
  go_upto_region 1 with fail
  have HW := Lib.hid (two_grow w (.cells c.cells 25) (.cells d.cells 25))
  have b0 : Blk ((w.alloc (.cells c.cells 25)).alloc (.cells d.cells 25)) w.heap.size 25 c.cells := (Blk.new _ _ _).alloc _
  have b1 : Blk ((w.alloc (.cells c.cells 25)).alloc (.cells d.cells 25)) (w.heap.size + 1) 25 d.cells := blk_at _ _ _ _ _ (by rw [alloc_size]) rfl
  generalize (w.alloc (.cells c.cells 25)).alloc (.cells d.cells 25) = w1 at *
  have n0 := C_cell16' b0 hc
  have n1 := C_cell16' b1 hd
  have hx := bcmp_any (c := 16) (c' := 16) w1.drew (src_cells (w := w1.drew) b0 hc) (src_cells (w := w1.drew) b1 hd)
  clear b0 b1
  generalize hG : w.heap.size = G at *
  generalize Lib.compareBytes c.a d.a = R at *
  generalize Lib.compareInt c.n d.n = R2 at *
  refine wp_region_held_drew (S := fun w' => w' = w1.drew) (by kernel_rfl) rfl (fun h0 => ?_)
  refine hd_take 0 (some 6) (.pointer (some ⟨G, 0, none⟩)) rfl rfl (by kernel_rfl) (by kernel_rfl) (by kernel_rfl) (fun _ _ _ h => h) (Or.inl ⟨by rfl, fun w hw => by go_simp⟩) h0 ?_
  simp only [Act.put, List.setIfInBounds_toArray, List.set_cons_zero, List.set_cons_succ]
  refine hd_take 1 (some 7) (.slice (some ⟨G, 0, none⟩) 16 16) rfl rfl (by kernel_rfl) (by kernel_rfl) (by kernel_rfl) (fun _ _ _ h => h) (Or.inl ⟨by rfl, fun w hw => by go_simp⟩) h0 ?_
  simp only [Act.put, List.setIfInBounds_toArray, List.set_cons_zero, List.set_cons_succ]
  refine hd_take 2 (some 8) (.pointer (some ⟨G + 1, 0, none⟩)) rfl rfl (by kernel_rfl) (by kernel_rfl) (by kernel_rfl) (fun _ _ _ h => h) (Or.inl ⟨by rfl, fun w hw => by go_simp⟩) h0 ?_
  simp only [Act.put, List.setIfInBounds_toArray, List.set_cons_zero, List.set_cons_succ]
  refine hd_take 3 (some 9) (.slice (some ⟨G + 1, 0, none⟩) 16 16) rfl rfl (by kernel_rfl) (by kernel_rfl) (by kernel_rfl) (fun _ _ _ h => h) (Or.inl ⟨by rfl, fun w hw => by go_simp⟩) h0 ?_
  simp only [Act.put, List.setIfInBounds_toArray, List.set_cons_zero, List.set_cons_succ]
  refine wpAnyH_ready (rs := [4]) (by kernel_rfl) (by simp) (AllReadyH.cons rfl (fun K hK => ?_) AllReadyH.nil)
  go_simp
  go_wp2_with (go_at_call 41; refine hx.mono ?_; rintro e w2 ⟨rfl, rfl⟩)
  refine hK.out _ _ rfl (fun h2 => ?_)
  clear hK K
  refine hd_take 5 (some 5) (.int .i64 R) rfl rfl (by kernel_rfl) (by kernel_rfl) (by kernel_rfl) (fun _ _ _ h => h) (Or.inl ⟨by rfl, fun w hw => by go_simp⟩) h2 ?_
  simp only [Act.put, List.setIfInBounds_toArray, List.set_cons_zero, List.set_cons_succ]
  refine wpAnyH_done (by kernel_rfl) ?_ _
  by_cases hR : R = 0
  · subst hR
    have HZ := Lib.hid (HF.out.trans (if_neg (by simp)))
    clear HF
    go_wp2_with fail
    refine (hcm _).mono ?_
    rintro e w3 ⟨rfl, rfl⟩
    go_wp2_with fail
    go_ret
    exact ⟨by rw [HZ.out]; rfl, _, _, HW.out⟩
  · have HZ := Lib.hid (HF.out.trans (if_pos hR))
    have hR2 : (R == 0) = false := by simpa using hR
    clear HF
    go_wp2_with fail
    go_ret
    exact ⟨by rw [HZ.out]; rfl, _, _, HW.out⟩
end Go.Proofs.YtpbogmdmjeehpaaDoor.Ad
