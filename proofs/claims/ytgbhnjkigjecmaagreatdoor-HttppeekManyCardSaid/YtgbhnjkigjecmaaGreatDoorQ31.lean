/-
  law16's small case over this seat's translation.
-/
import Derived.Test.YtgbhnjkigjecmaaGreatDoorQ30
import Derived.Test.YtgbhnjkigjecmaaGreatDoorQ28
namespace Go.Proofs.YtgbhnjkigjecmaaGreatDoor.Hp
open Go.RowKit Go.Proofs.YtgbhnjkigjecmaaGreatDoor.Wd

theorem allHP_of {xs : List UInt8} {w : World} {z u : Nat} {r p : Int} {h : List UInt8} (hT : (allH xs).z = z ∧ (allH xs).u = u ∧ (allH xs).r = r ∧ (allH xs).h = h ∧ (allH xs).p = p) {e : Ending} {w' : World} (hP : AllHP xs w e w') :
    e = .returned (.agg (vH (z : Int) 2 (u : Int) r ⟨h.toArray⟩ p)) ∧ Below w.heap.size w w' := by
  obtain ⟨h1, h2, h3, h4, h5⟩ := hT
  unfold AllHP at hP
  rw [h1, h2, h3, h4, h5] at hP
  exact hP
def smX : List UInt8 := [71, 69, 84, 32, 47, 32, 72, 84, 84, 80, 47, 49, 46, 49, 13, 10, 72, 111, 115, 116, 58, 32, 65, 46, 98, 58, 56, 49, 13, 10, 13, 10, 120]
theorem small_v : (allH smX).z = 1 ∧ (allH smX).u = 32 ∧ (allH smX).r = 0 ∧ (allH smX).h = [97, 46, 98] ∧ (allH smX).p = 81 := by decide +kernel
theorem small_w : (allH [10]).z = 2 ∧ (allH [10]).u = 1 ∧ (allH [10]).r = 3 ∧ (allH [10]).h = [] ∧ (allH [10]).p = 0 := by decide +kernel
theorem small_x : (allH [71, 69, 84, 32, 47, 32, 72, 84, 84, 80, 47, 49, 46, 49, 13, 10, 13, 10]).z = 2 ∧ (allH [71, 69, 84, 32, 47, 32, 72, 84, 84, 80, 47, 49, 46, 49, 13, 10, 13, 10]).u = 18 ∧ (allH [71, 69, 84, 32, 47, 32, 72, 84, 84, 80, 47, 49, 46, 49, 13, 10, 13, 10]).r = 8 ∧ (allH [71, 69, 84, 32, 47, 32, 72, 84, 84, 80, 47, 49, 46, 49, 13, 10, 13, 10]).h = [] ∧ (allH [71, 69, 84, 32, 47, 32, 72, 84, 84, 80, 47, 49, 46, 49, 13, 10, 13, 10]).p = 0 := by decide +kernel
theorem small_y : (allH [71, 69, 84, 32, 47, 32, 72, 84, 84, 80, 47, 49, 46, 49, 13, 10, 72, 111, 115, 116, 58, 97]).z = 0 ∧ (allH [71, 69, 84, 32, 47, 32, 72, 84, 84, 80, 47, 49, 46, 49, 13, 10, 72, 111, 115, 116, 58, 97]).u = 22 ∧ (allH [71, 69, 84, 32, 47, 32, 72, 84, 84, 80, 47, 49, 46, 49, 13, 10, 72, 111, 115, 116, 58, 97]).r = 0 ∧ (allH [71, 69, 84, 32, 47, 32, 72, 84, 84, 80, 47, 49, 46, 49, 13, 10, 72, 111, 115, 116, 58, 97]).h = [] ∧ (allH [71, 69, 84, 32, 47, 32, 72, 84, 84, 80, 47, 49, 46, 49, 13, 10, 72, 111, 115, 116, 58, 97]).p = 0 := by decide +kernel
theorem small_z : (allH [71, 69, 84, 32, 47, 13, 120]).z = 2 ∧ (allH [71, 69, 84, 32, 47, 13, 120]).u = 7 ∧ (allH [71, 69, 84, 32, 47, 13, 120]).r = 3 ∧ (allH [71, 69, 84, 32, 47, 13, 120]).h = [] ∧ (allH [71, 69, 84, 32, 47, 13, 120]).p = 0 := by decide +kernel
theorem small_t : (stepH H.st 13).z = 0 ∧ (stepH H.st 13).u = 1 ∧ (stepH (stepH H.st 13) 10).z = 2 ∧ (stepH (stepH H.st 13) 10).u = 2 ∧ (stepH (stepH H.st 13) 10).r = 3 ∧ stepH (stepH (stepH H.st 13) 10) 10 = stepH (stepH H.st 13) 10 := by refine ⟨?_, ?_, ?_, ?_, ?_, stepH_stay (by decide +kernel) 10⟩ <;> decide +kernel
/-- what the last line loads -/
structure SmS (w : World) (Gv Gw Gx Gy Gz Ga Gb : Nat) : Prop where
  vv : w.rangeAt Gv 0 (vH 1 2 32 0 ⟨#[97, 46, 98]⟩ 81).toList
  qGw3 : w.cell? ⟨Gw, 3, none⟩ = some (.int .i64 3)
  qGw2 : w.cell? ⟨Gw, 2, none⟩ = some (.int .i64 1)
  qGx0 : w.cell? ⟨Gx, 0, none⟩ = some (.int .i64 2)
  qGx3 : w.cell? ⟨Gx, 3, none⟩ = some (.int .i64 8)
  qGx2 : w.cell? ⟨Gx, 2, none⟩ = some (.int .i64 18)
  qGy0 : w.cell? ⟨Gy, 0, none⟩ = some (.int .i64 0)
  qGy2 : w.cell? ⟨Gy, 2, none⟩ = some (.int .i64 22)
  qGz2 : w.cell? ⟨Gz, 2, none⟩ = some (.int .i64 7)
  qGz3 : w.cell? ⟨Gz, 3, none⟩ = some (.int .i64 3)
  qGa3 : w.cell? ⟨Ga, 3, none⟩ = some (.int .i64 3)
  qGa2 : w.cell? ⟨Ga, 2, none⟩ = some (.int .i64 2)
  qGb2 : w.cell? ⟨Gb, 2, none⟩ = some (.int .i64 2)
theorem range_v {w : World} {g t : Nat} {z o u r p : Int} {H : ByteArray} (h : Blk w g t (vH z o u r H p)) : w.rangeAt g 0 (vH z o u r H p).toList := fun j v hv => by
  rw [h.cell, Nat.zero_add]
  simpa using hv

set_option linter.unusedSimpArgs false in
set_option maxRecDepth 100000 in
set_option maxHeartbeats 16000000 in
theorem small_any {B : Nat} (w : World) (hE : Ad.Env B w) : Calls Tryz.prog 9 #[] w fun e w' => e = .returned (.bool true) ∧ Below w.heap.size w w' := by
  have HE := Lib.hid hE
  obtain ⟨c0, w1, hcv, hs1, hb1, hc1⟩ := bytes_str smX w
  have HS1 := Lib.hid (show Src w1 (some ⟨w.heap.size, 0, none⟩) 33 smX from hs1)
  have HL1 := Lib.hid hb1
  have hcv2 : (convert 9 22 (.string (⟨#[71, 69, 84, 32, 47, 32, 72, 84, 84, 80, 47, 49, 46, 49, 13, 10, 72, 111, 115, 116, 58, 32, 65, 46, 98, 58, 56, 49, 13, 10, 13, 10]⟩ ++ ⟨#[120]⟩))).run Tryz.prog w = .ok (.slice (some ⟨w.heap.size, 0, none⟩) 33 c0) w1 := by
    rw [show ((⟨#[71, 69, 84, 32, 47, 32, 72, 84, 84, 80, 47, 49, 46, 49, 13, 10, 72, 111, 115, 116, 58, 32, 65, 46, 98, 58, 56, 49, 13, 10, 13, 10]⟩ : ByteArray) ++ ⟨#[120]⟩) = Tx.str smX by kernel_rfl]
    exact hcv
  clear hE hs1 hb1 hcv hc1
  go_enter Tryz.func9, Tryz.ntmps9
  go_wp2_with fail
  refine (all_any (B := B) (some ⟨w.heap.size, 0, none⟩) 33 c0 smX w1 (HE.out.on HL1.out) HS1.out (by decide)).mono ?_
  rintro e wv hP
  obtain ⟨rfl, hb⟩ := allHP_of small_v hP
  have HLv := Lib.hid (HL1.out.trans (hb.mono HL1.out.size))
  clear hP hb HS1 HL1 hcv2
  go_upto_region 3 with (refine St.go_st 31 (Blk.new _ _ _) infV rfl (vH_size _ _ _ _ _ _) (vH_one _ _ _ _ _ _) rfl rfl rfl rfl ?_)
  obtain ⟨hk, hb⟩ := verd_new wv (vH ((1 : Nat) : Int) 2 ((32 : Nat) : Int) 0 ⟨[97, 46, 98].toArray⟩ 81)
  have HKv := Lib.hid hk
  have HMv := Lib.hid (HLv.out.trans (hb.mono HLv.out.size))
  clear hk hb HLv
  generalize (wv.alloc (.cells #[Value.int .i64 0, .int .i64 0, .int .i64 0, .int .i64 0, .string ⟨#[]⟩, .int .i64 0, .bool false, .string ⟨#[]⟩, .slice none 0 0, .slice none 0 0, .bool false] 31)).setRow wv.heap.size (vH ((1 : Nat) : Int) 2 ((32 : Nat) : Int) 0 ⟨[97, 46, 98].toArray⟩ 81) = sv at *
  obtain ⟨Gv, hg⟩ : ∃ g, wv.heap.size = g := ⟨_, rfl⟩
  rw [hg] at HKv
  rw [hg]
  clear hg
  have HSw := Lib.hid (Src.marked sv #[.int .u8 10] 5 (1, 2) [10] rfl)
  have kc : (convert 22 22 (.slice (some ⟨sv.heap.size, 0, none⟩) 1 1)).run Tryz.prog (sv.alloc (.cells #[.int .u8 10] 5)) = .ok (.slice (some ⟨sv.heap.size, 0, none⟩) 1 1) (sv.alloc (.cells #[.int .u8 10] 5 (1, 2))) := Lib.run_convert_bytes_const (P := Tryz.prog) sv 22 5 #[.int .u8 10] 1 1 Tryz.underlying22 Tryz.underlying5
  have hb : Below sv.heap.size sv (sv.alloc (.cells #[.int .u8 10] 5 (1, 2))) := (Below.refl _ _).alloc (Nat.le_refl _) _
  have HNw := Lib.hid (HMv.out.trans (hb.mono HMv.out.size))
  have HKv := Lib.hid (HKv.out.below hb HKv.out.lt)
  clear hb HMv
  go_wp2_with fail
  clear kc
  generalize sv.alloc (.cells #[.int .u8 10] 5 (1, 2)) = aw at *
  refine (all_any (B := B) (some ⟨sv.heap.size, 0, none⟩) 1 1 [10] aw (HE.out.on HNw.out) HSw.out (by decide)).mono ?_
  rintro e ww hP
  obtain ⟨rfl, hb⟩ := allHP_of small_w hP
  have HLw := Lib.hid (HNw.out.trans (hb.mono HNw.out.size))
  have HKv := Lib.hid (HKv.out.below hb HKv.out.lt)
  clear hP hb HSw HNw
  go_upto_region 4 with (refine St.go_st 31 (Blk.new _ _ _) infV rfl (vH_size _ _ _ _ _ _) (vH_one _ _ _ _ _ _) rfl rfl rfl rfl ?_)
  obtain ⟨hk, hb⟩ := verd_new ww (vH ((2 : Nat) : Int) 2 ((1 : Nat) : Int) 3 ⟨[].toArray⟩ 0)
  have HKw := Lib.hid hk
  have HKv := Lib.hid (HKv.out.below hb HKv.out.lt)
  have HMw := Lib.hid (HLw.out.trans (hb.mono HLw.out.size))
  clear hk hb HLw
  generalize (ww.alloc (.cells #[Value.int .i64 0, .int .i64 0, .int .i64 0, .int .i64 0, .string ⟨#[]⟩, .int .i64 0, .bool false, .string ⟨#[]⟩, .slice none 0 0, .slice none 0 0, .bool false] 31)).setRow ww.heap.size (vH ((2 : Nat) : Int) 2 ((1 : Nat) : Int) 3 ⟨[].toArray⟩ 0) = sw at *
  obtain ⟨Gw, hg⟩ : ∃ g, ww.heap.size = g := ⟨_, rfl⟩
  rw [hg] at HKw
  rw [hg]
  clear hg
  have HSx := Lib.hid (Src.marked sw #[.int .u8 71, .int .u8 69, .int .u8 84, .int .u8 32, .int .u8 47, .int .u8 32, .int .u8 72, .int .u8 84, .int .u8 84, .int .u8 80, .int .u8 47, .int .u8 49, .int .u8 46, .int .u8 49, .int .u8 13, .int .u8 10, .int .u8 13, .int .u8 10] 5 (18, 19) [71, 69, 84, 32, 47, 32, 72, 84, 84, 80, 47, 49, 46, 49, 13, 10, 13, 10] rfl)
  have kc : (convert 22 22 (.slice (some ⟨sw.heap.size, 0, none⟩) 18 18)).run Tryz.prog (sw.alloc (.cells #[.int .u8 71, .int .u8 69, .int .u8 84, .int .u8 32, .int .u8 47, .int .u8 32, .int .u8 72, .int .u8 84, .int .u8 84, .int .u8 80, .int .u8 47, .int .u8 49, .int .u8 46, .int .u8 49, .int .u8 13, .int .u8 10, .int .u8 13, .int .u8 10] 5)) = .ok (.slice (some ⟨sw.heap.size, 0, none⟩) 18 18) (sw.alloc (.cells #[.int .u8 71, .int .u8 69, .int .u8 84, .int .u8 32, .int .u8 47, .int .u8 32, .int .u8 72, .int .u8 84, .int .u8 84, .int .u8 80, .int .u8 47, .int .u8 49, .int .u8 46, .int .u8 49, .int .u8 13, .int .u8 10, .int .u8 13, .int .u8 10] 5 (18, 19))) := Lib.run_convert_bytes_const (P := Tryz.prog) sw 22 5 #[.int .u8 71, .int .u8 69, .int .u8 84, .int .u8 32, .int .u8 47, .int .u8 32, .int .u8 72, .int .u8 84, .int .u8 84, .int .u8 80, .int .u8 47, .int .u8 49, .int .u8 46, .int .u8 49, .int .u8 13, .int .u8 10, .int .u8 13, .int .u8 10] 18 18 Tryz.underlying22 Tryz.underlying5
  have hb : Below sw.heap.size sw (sw.alloc (.cells #[.int .u8 71, .int .u8 69, .int .u8 84, .int .u8 32, .int .u8 47, .int .u8 32, .int .u8 72, .int .u8 84, .int .u8 84, .int .u8 80, .int .u8 47, .int .u8 49, .int .u8 46, .int .u8 49, .int .u8 13, .int .u8 10, .int .u8 13, .int .u8 10] 5 (18, 19))) := (Below.refl _ _).alloc (Nat.le_refl _) _
  have HNx := Lib.hid (HMw.out.trans (hb.mono HMw.out.size))
  have HKv := Lib.hid (HKv.out.below hb HKv.out.lt)
  have HKw := Lib.hid (HKw.out.below hb HKw.out.lt)
  clear hb HMw
  go_wp2_with fail
  clear kc
  generalize sw.alloc (.cells #[.int .u8 71, .int .u8 69, .int .u8 84, .int .u8 32, .int .u8 47, .int .u8 32, .int .u8 72, .int .u8 84, .int .u8 84, .int .u8 80, .int .u8 47, .int .u8 49, .int .u8 46, .int .u8 49, .int .u8 13, .int .u8 10, .int .u8 13, .int .u8 10] 5 (18, 19)) = ax at *
  refine (all_any (B := B) (some ⟨sw.heap.size, 0, none⟩) 18 18 [71, 69, 84, 32, 47, 32, 72, 84, 84, 80, 47, 49, 46, 49, 13, 10, 13, 10] ax (HE.out.on HNx.out) HSx.out (by decide)).mono ?_
  rintro e wx hP
  obtain ⟨rfl, hb⟩ := allHP_of small_x hP
  have HLx := Lib.hid (HNx.out.trans (hb.mono HNx.out.size))
  have HKv := Lib.hid (HKv.out.below hb HKv.out.lt)
  have HKw := Lib.hid (HKw.out.below hb HKw.out.lt)
  clear hP hb HSx HNx
  go_upto_region 5 with (refine St.go_st 31 (Blk.new _ _ _) infV rfl (vH_size _ _ _ _ _ _) (vH_one _ _ _ _ _ _) rfl rfl rfl rfl ?_)
  obtain ⟨hk, hb⟩ := verd_new wx (vH ((2 : Nat) : Int) 2 ((18 : Nat) : Int) 8 ⟨[].toArray⟩ 0)
  have HKx := Lib.hid hk
  have HKv := Lib.hid (HKv.out.below hb HKv.out.lt)
  have HKw := Lib.hid (HKw.out.below hb HKw.out.lt)
  have HMx := Lib.hid (HLx.out.trans (hb.mono HLx.out.size))
  clear hk hb HLx
  generalize (wx.alloc (.cells #[Value.int .i64 0, .int .i64 0, .int .i64 0, .int .i64 0, .string ⟨#[]⟩, .int .i64 0, .bool false, .string ⟨#[]⟩, .slice none 0 0, .slice none 0 0, .bool false] 31)).setRow wx.heap.size (vH ((2 : Nat) : Int) 2 ((18 : Nat) : Int) 8 ⟨[].toArray⟩ 0) = sx at *
  obtain ⟨Gx, hg⟩ : ∃ g, wx.heap.size = g := ⟨_, rfl⟩
  rw [hg] at HKx
  rw [hg]
  clear hg
  have HSy := Lib.hid (Src.marked sx #[.int .u8 71, .int .u8 69, .int .u8 84, .int .u8 32, .int .u8 47, .int .u8 32, .int .u8 72, .int .u8 84, .int .u8 84, .int .u8 80, .int .u8 47, .int .u8 49, .int .u8 46, .int .u8 49, .int .u8 13, .int .u8 10, .int .u8 72, .int .u8 111, .int .u8 115, .int .u8 116, .int .u8 58, .int .u8 97] 5 (22, 23) [71, 69, 84, 32, 47, 32, 72, 84, 84, 80, 47, 49, 46, 49, 13, 10, 72, 111, 115, 116, 58, 97] rfl)
  have kc : (convert 22 22 (.slice (some ⟨sx.heap.size, 0, none⟩) 22 22)).run Tryz.prog (sx.alloc (.cells #[.int .u8 71, .int .u8 69, .int .u8 84, .int .u8 32, .int .u8 47, .int .u8 32, .int .u8 72, .int .u8 84, .int .u8 84, .int .u8 80, .int .u8 47, .int .u8 49, .int .u8 46, .int .u8 49, .int .u8 13, .int .u8 10, .int .u8 72, .int .u8 111, .int .u8 115, .int .u8 116, .int .u8 58, .int .u8 97] 5)) = .ok (.slice (some ⟨sx.heap.size, 0, none⟩) 22 22) (sx.alloc (.cells #[.int .u8 71, .int .u8 69, .int .u8 84, .int .u8 32, .int .u8 47, .int .u8 32, .int .u8 72, .int .u8 84, .int .u8 84, .int .u8 80, .int .u8 47, .int .u8 49, .int .u8 46, .int .u8 49, .int .u8 13, .int .u8 10, .int .u8 72, .int .u8 111, .int .u8 115, .int .u8 116, .int .u8 58, .int .u8 97] 5 (22, 23))) := Lib.run_convert_bytes_const (P := Tryz.prog) sx 22 5 #[.int .u8 71, .int .u8 69, .int .u8 84, .int .u8 32, .int .u8 47, .int .u8 32, .int .u8 72, .int .u8 84, .int .u8 84, .int .u8 80, .int .u8 47, .int .u8 49, .int .u8 46, .int .u8 49, .int .u8 13, .int .u8 10, .int .u8 72, .int .u8 111, .int .u8 115, .int .u8 116, .int .u8 58, .int .u8 97] 22 22 Tryz.underlying22 Tryz.underlying5
  have hb : Below sx.heap.size sx (sx.alloc (.cells #[.int .u8 71, .int .u8 69, .int .u8 84, .int .u8 32, .int .u8 47, .int .u8 32, .int .u8 72, .int .u8 84, .int .u8 84, .int .u8 80, .int .u8 47, .int .u8 49, .int .u8 46, .int .u8 49, .int .u8 13, .int .u8 10, .int .u8 72, .int .u8 111, .int .u8 115, .int .u8 116, .int .u8 58, .int .u8 97] 5 (22, 23))) := (Below.refl _ _).alloc (Nat.le_refl _) _
  have HNy := Lib.hid (HMx.out.trans (hb.mono HMx.out.size))
  have HKv := Lib.hid (HKv.out.below hb HKv.out.lt)
  have HKw := Lib.hid (HKw.out.below hb HKw.out.lt)
  have HKx := Lib.hid (HKx.out.below hb HKx.out.lt)
  clear hb HMx
  go_wp2_with fail
  clear kc
  generalize sx.alloc (.cells #[.int .u8 71, .int .u8 69, .int .u8 84, .int .u8 32, .int .u8 47, .int .u8 32, .int .u8 72, .int .u8 84, .int .u8 84, .int .u8 80, .int .u8 47, .int .u8 49, .int .u8 46, .int .u8 49, .int .u8 13, .int .u8 10, .int .u8 72, .int .u8 111, .int .u8 115, .int .u8 116, .int .u8 58, .int .u8 97] 5 (22, 23)) = ay at *
  refine (all_any (B := B) (some ⟨sx.heap.size, 0, none⟩) 22 22 [71, 69, 84, 32, 47, 32, 72, 84, 84, 80, 47, 49, 46, 49, 13, 10, 72, 111, 115, 116, 58, 97] ay (HE.out.on HNy.out) HSy.out (by decide)).mono ?_
  rintro e wy hP
  obtain ⟨rfl, hb⟩ := allHP_of small_y hP
  have HLy := Lib.hid (HNy.out.trans (hb.mono HNy.out.size))
  have HKv := Lib.hid (HKv.out.below hb HKv.out.lt)
  have HKw := Lib.hid (HKw.out.below hb HKw.out.lt)
  have HKx := Lib.hid (HKx.out.below hb HKx.out.lt)
  clear hP hb HSy HNy
  go_upto_region 6 with (refine St.go_st 31 (Blk.new _ _ _) infV rfl (vH_size _ _ _ _ _ _) (vH_one _ _ _ _ _ _) rfl rfl rfl rfl ?_)
  obtain ⟨hk, hb⟩ := verd_new wy (vH ((0 : Nat) : Int) 2 ((22 : Nat) : Int) 0 ⟨[].toArray⟩ 0)
  have HKy := Lib.hid hk
  have HKv := Lib.hid (HKv.out.below hb HKv.out.lt)
  have HKw := Lib.hid (HKw.out.below hb HKw.out.lt)
  have HKx := Lib.hid (HKx.out.below hb HKx.out.lt)
  have HMy := Lib.hid (HLy.out.trans (hb.mono HLy.out.size))
  clear hk hb HLy
  generalize (wy.alloc (.cells #[Value.int .i64 0, .int .i64 0, .int .i64 0, .int .i64 0, .string ⟨#[]⟩, .int .i64 0, .bool false, .string ⟨#[]⟩, .slice none 0 0, .slice none 0 0, .bool false] 31)).setRow wy.heap.size (vH ((0 : Nat) : Int) 2 ((22 : Nat) : Int) 0 ⟨[].toArray⟩ 0) = sy at *
  obtain ⟨Gy, hg⟩ : ∃ g, wy.heap.size = g := ⟨_, rfl⟩
  rw [hg] at HKy
  rw [hg]
  clear hg
  have HSz := Lib.hid (Src.marked sy #[.int .u8 71, .int .u8 69, .int .u8 84, .int .u8 32, .int .u8 47, .int .u8 13, .int .u8 120] 5 (7, 8) [71, 69, 84, 32, 47, 13, 120] rfl)
  have kc : (convert 22 22 (.slice (some ⟨sy.heap.size, 0, none⟩) 7 7)).run Tryz.prog (sy.alloc (.cells #[.int .u8 71, .int .u8 69, .int .u8 84, .int .u8 32, .int .u8 47, .int .u8 13, .int .u8 120] 5)) = .ok (.slice (some ⟨sy.heap.size, 0, none⟩) 7 7) (sy.alloc (.cells #[.int .u8 71, .int .u8 69, .int .u8 84, .int .u8 32, .int .u8 47, .int .u8 13, .int .u8 120] 5 (7, 8))) := Lib.run_convert_bytes_const (P := Tryz.prog) sy 22 5 #[.int .u8 71, .int .u8 69, .int .u8 84, .int .u8 32, .int .u8 47, .int .u8 13, .int .u8 120] 7 7 Tryz.underlying22 Tryz.underlying5
  have hb : Below sy.heap.size sy (sy.alloc (.cells #[.int .u8 71, .int .u8 69, .int .u8 84, .int .u8 32, .int .u8 47, .int .u8 13, .int .u8 120] 5 (7, 8))) := (Below.refl _ _).alloc (Nat.le_refl _) _
  have HNz := Lib.hid (HMy.out.trans (hb.mono HMy.out.size))
  have HKv := Lib.hid (HKv.out.below hb HKv.out.lt)
  have HKw := Lib.hid (HKw.out.below hb HKw.out.lt)
  have HKx := Lib.hid (HKx.out.below hb HKx.out.lt)
  have HKy := Lib.hid (HKy.out.below hb HKy.out.lt)
  clear hb HMy
  go_wp2_with fail
  clear kc
  generalize sy.alloc (.cells #[.int .u8 71, .int .u8 69, .int .u8 84, .int .u8 32, .int .u8 47, .int .u8 13, .int .u8 120] 5 (7, 8)) = az at *
  refine (all_any (B := B) (some ⟨sy.heap.size, 0, none⟩) 7 7 [71, 69, 84, 32, 47, 13, 120] az (HE.out.on HNz.out) HSz.out (by decide)).mono ?_
  rintro e wz hP
  obtain ⟨rfl, hb⟩ := allHP_of small_z hP
  have HLz := Lib.hid (HNz.out.trans (hb.mono HNz.out.size))
  have HKv := Lib.hid (HKv.out.below hb HKv.out.lt)
  have HKw := Lib.hid (HKw.out.below hb HKw.out.lt)
  have HKx := Lib.hid (HKx.out.below hb HKx.out.lt)
  have HKy := Lib.hid (HKy.out.below hb HKy.out.lt)
  clear hP hb HSz HNz
  go_upto_region 7 with (refine St.go_st 31 (Blk.new _ _ _) infV rfl (vH_size _ _ _ _ _ _) (vH_one _ _ _ _ _ _) rfl rfl rfl rfl ?_)
  obtain ⟨hk, hb⟩ := verd_new wz (vH ((2 : Nat) : Int) 2 ((7 : Nat) : Int) 3 ⟨[].toArray⟩ 0)
  have HKz := Lib.hid hk
  have HKv := Lib.hid (HKv.out.below hb HKv.out.lt)
  have HKw := Lib.hid (HKw.out.below hb HKw.out.lt)
  have HKx := Lib.hid (HKx.out.below hb HKx.out.lt)
  have HKy := Lib.hid (HKy.out.below hb HKy.out.lt)
  have HMz := Lib.hid (HLz.out.trans (hb.mono HLz.out.size))
  clear hk hb HLz
  generalize (wz.alloc (.cells #[Value.int .i64 0, .int .i64 0, .int .i64 0, .int .i64 0, .string ⟨#[]⟩, .int .i64 0, .bool false, .string ⟨#[]⟩, .slice none 0 0, .slice none 0 0, .bool false] 31)).setRow wz.heap.size (vH ((2 : Nat) : Int) 2 ((7 : Nat) : Int) 3 ⟨[].toArray⟩ 0) = sz at *
  obtain ⟨Gz, hg⟩ : ∃ g, wz.heap.size = g := ⟨_, rfl⟩
  rw [hg] at HKz
  rw [hg]
  clear hg
  obtain ⟨K0, hK0⟩ : ∃ K, sz.heap.size = K := ⟨_, rfl⟩
  have hB0 : w.heap.size ≤ K0 := by rw [← hK0]; exact HMz.out.size
  have hE0 : B ≤ w.heap.size := HE.out.le
  go_wp2_with fail
  refine (new_any sz).mono ?_
  rintro e n1 ⟨g, rfl, hP, hfar, hb⟩
  rw [hK0] at hfar hb
  have HP1 := Lib.hid hP
  have HB1 := Lib.hid hb
  have HF1 := Lib.hid (show ∀ i ∈ g :: ([] : List Nat), K0 ≤ i from fun i hi => by have := List.mem_singleton.1 hi; omega)
  have HE1 := Lib.hid (HE.out.on (HMz.out.trans (hb.mono hB0)))
  clear hP hfar hb
  go_wp2_with fail
  refine (take_any (E := B) HE1.out (fun i hi => by have := HF1.out i hi; omega) HP1.out (by decide) 13).mono ?_
  rintro e n2 ⟨S2, rfl, hP, hS, hb⟩
  have hs1 : K0 ≤ n1.heap.size := by have := HF1.out g (by simp); have := HP1.out.lt; omega
  have HP2 := Lib.hid hP
  have HB2 := Lib.hid (HB1.out.trans (hb.below HF1.out hs1))
  have HF2 := Lib.hid (show ∀ i ∈ g :: S2, K0 ≤ i from fun i hi => by
    rcases List.mem_cons.1 hi with hi | hi
    · rw [hi]; exact HF1.out g (by simp)
    · rcases hS i hi with h | h
      · cases h
      · omega)
  have HE2 := Lib.hid (HE.out.on (HMz.out.trans (HB2.out.mono hB0)))
  clear hP hS hb HP1 HB1 HF1 HE1 hs1
  obtain ⟨t1, t2, t3, t4, t5, t6⟩ := small_t
  obtain ⟨tA, htA⟩ : ∃ t, stepH H.st 13 = t := ⟨_, rfl⟩
  rw [htA] at HP2 t1 t2 t3 t4 t5 t6
  rw [htA]
  have huA : tA.u ≤ 1000000 := by omega
  go_wp2_with fail
  refine (take_any (E := B) HE2.out (fun i hi => by have := HF2.out i hi; omega) HP2.out huA 10).mono ?_
  rintro e n3 ⟨S3, rfl, hP, hS, hb⟩
  have hs2 : K0 ≤ n2.heap.size := by have := HF2.out g (by simp); have := HP2.out.lt; omega
  obtain ⟨tB, htB⟩ : ∃ t, stepH tA 10 = t := ⟨_, rfl⟩
  rw [htB] at hP t3 t4 t5 t6
  rw [htB]
  have HP3 := Lib.hid hP
  have HB3 := Lib.hid (HB2.out.trans (hb.below HF2.out hs2))
  have HF3 := Lib.hid (show ∀ i ∈ g :: S3, K0 ≤ i from fun i hi => by
    rcases List.mem_cons.1 hi with hi | hi
    · rw [hi]; exact HF2.out g (by simp)
    · rcases hS i hi with h | h
      · exact HF2.out i (List.mem_cons_of_mem _ h)
      · omega)
  clear hP hS hb HP2 HB2 HF2 HE2 hs2 htA t1 t2 huA
  have ts : Hid (tB.z = 2 ∧ tB.u = 2 ∧ tB.r = 3) := Lib.hid ⟨t3, t4, t5⟩
  have huB : tB.u ≤ 1000000 := by omega
  clear t3 t4 t5
  go_upto_region 12 with (refine St.go_st 31 (Blk.new _ _ _) infV rfl (vH_size _ _ _ _ _ _) (vH_one _ _ _ _ _ _) rfl rfl rfl rfl ?_)
  obtain ⟨hk, hb⟩ := verd_new n3 (vH (tB.z : Int) 2 (tB.u : Int) tB.r (Tx.str tB.h) tB.p)
  have HKa := Lib.hid hk
  have hs3 : K0 ≤ n3.heap.size := by have := HF3.out g (by simp); have := HP3.out.lt; omega
  have HB4 := Lib.hid (HB3.out.trans (hb.mono hs3))
  have HP4 := Lib.hid (HP3.out.below hb)
  have HN4 := Lib.hid (show ∀ i ∈ g :: S3, i ≠ n3.heap.size from fun i hi => by
    rcases List.mem_cons.1 hi with hi | hi
    · rw [hi]; exact Nat.ne_of_lt HP3.out.lt
    · exact Nat.ne_of_lt (HP3.out.lts i hi).1)
  have HE4 := Lib.hid (HE.out.on (HMz.out.trans (HB4.out.mono hB0)))
  clear hk hb HP3 HB3
  generalize (n3.alloc (.cells #[Value.int .i64 0, .int .i64 0, .int .i64 0, .int .i64 0, .string ⟨#[]⟩, .int .i64 0, .bool false, .string ⟨#[]⟩, .slice none 0 0, .slice none 0 0, .bool false] 31)).setRow n3.heap.size (vH (tB.z : Int) 2 (tB.u : Int) tB.r (Tx.str tB.h) tB.p) = n4 at *
  obtain ⟨Ga, hg⟩ : ∃ g, n3.heap.size = g := ⟨_, rfl⟩
  rw [hg] at HKa HN4 hs3
  rw [hg]
  clear hg
  have hs4 : K0 ≤ n4.heap.size := by have := HF3.out g (by simp); have := HP4.out.lt; omega
  go_wp2_with fail
  refine (take_any (E := B) HE4.out (fun i hi => by have := HF3.out i hi; omega) HP4.out huB 10).mono ?_
  rw [t6]
  rintro e n5 ⟨S5, rfl, hP, hS, hb⟩
  have HB5 := Lib.hid (HB4.out.trans (hb.below HF3.out hs4))
  have HKa5 := Lib.hid (HKa.out.but hb (fun hm => HN4.out _ hm rfl))
  clear hP hS hb HP4 HB4 HF3 HE4 HN4 HKa t6 htB huB
  obtain ⟨t3, t4, t5⟩ := ts.out
  rw [t3, t4, t5] at HKa5
  rw [t3, t4, t5]
  clear t3 t4 t5 ts
  obtain ⟨X, hX⟩ : ∃ X, Tx.str tB.h = X := ⟨_, rfl⟩
  rw [hX] at HKa5
  rw [hX]
  generalize tB.p = pB at *
  clear hX
  have hs5 : K0 ≤ n5.heap.size := by rw [← hK0]; exact HB5.out.size
  have HLw := Lib.hid (HMz.out.trans (HB5.out.mono hB0))
  have HKv := Lib.hid (HKv.out.below HB5.out (by rw [← hK0]; exact HKv.out.lt))
  have HKw := Lib.hid (HKw.out.below HB5.out (by rw [← hK0]; exact HKw.out.lt))
  have HKx := Lib.hid (HKx.out.below HB5.out (by rw [← hK0]; exact HKx.out.lt))
  have HKy := Lib.hid (HKy.out.below HB5.out (by rw [← hK0]; exact HKy.out.lt))
  have HKz := Lib.hid (HKz.out.below HB5.out (by rw [← hK0]; exact HKz.out.lt))
  have hn5 := HLw.out.size
  clear HB5 HMz
  go_upto_region 13 with (refine St.go_st 31 (Blk.new _ _ _) infV rfl (vH_size _ _ _ _ _ _) (vH_one _ _ _ _ _ _) rfl rfl rfl rfl ?_)
  obtain ⟨hk, hb⟩ := verd_new n5 (vH 2 2 2 3 X pB)
  have HKb := Lib.hid hk
  have HKv := Lib.hid (HKv.out.below hb HKv.out.lt)
  have HKw := Lib.hid (HKw.out.below hb HKw.out.lt)
  have HKx := Lib.hid (HKx.out.below hb HKx.out.lt)
  have HKy := Lib.hid (HKy.out.below hb HKy.out.lt)
  have HKz := Lib.hid (HKz.out.below hb HKz.out.lt)
  have HKa5 := Lib.hid (HKa5.out.below hb HKa5.out.lt)
  have HL6 := Lib.hid (HLw.out.trans (hb.mono hn5))
  clear hk hb HLw hn5 hs5
  generalize (n5.alloc (.cells #[Value.int .i64 0, .int .i64 0, .int .i64 0, .int .i64 0, .string ⟨#[]⟩, .int .i64 0, .bool false, .string ⟨#[]⟩, .slice none 0 0, .slice none 0 0, .bool false] 31)).setRow n5.heap.size (vH 2 2 2 3 X pB) = n6 at *
  obtain ⟨Gb, hg⟩ : ∃ g, n5.heap.size = g := ⟨_, rfl⟩
  rw [hg] at HKb
  rw [hg]
  clear hg
  have hv6 := HKv.out
  clear HKv
  refine wp_region_lit ?_
  refine St.go_ld (x := .tmp 2) 31 hv6 undV rfl infV (vH_size _ _ _ _ _ _) rfl rfl rfl ?_
  go_wp2_with fail
  refine (samev_any 1 2 32 0 ⟨#[97, 46, 98]⟩ 81 n6).mono ?_
  rintro e n7 ⟨rfl, hb⟩
  have HL7 := Lib.hid (HL6.out.trans (hb.mono HL6.out.size))
  have qGw3 : n7.cell? ⟨Gw, 3, none⟩ = some (.int .i64 3) := by rw [(HKw.out.below hb HKw.out.lt).cell]; rfl
  have qGw2 : n7.cell? ⟨Gw, 2, none⟩ = some (.int .i64 1) := by rw [(HKw.out.below hb HKw.out.lt).cell]; rfl
  have qGx0 : n7.cell? ⟨Gx, 0, none⟩ = some (.int .i64 2) := by rw [(HKx.out.below hb HKx.out.lt).cell]; rfl
  have qGx3 : n7.cell? ⟨Gx, 3, none⟩ = some (.int .i64 8) := by rw [(HKx.out.below hb HKx.out.lt).cell]; rfl
  have qGx2 : n7.cell? ⟨Gx, 2, none⟩ = some (.int .i64 18) := by rw [(HKx.out.below hb HKx.out.lt).cell]; rfl
  have qGy0 : n7.cell? ⟨Gy, 0, none⟩ = some (.int .i64 0) := by rw [(HKy.out.below hb HKy.out.lt).cell]; rfl
  have qGy2 : n7.cell? ⟨Gy, 2, none⟩ = some (.int .i64 22) := by rw [(HKy.out.below hb HKy.out.lt).cell]; rfl
  have qGz2 : n7.cell? ⟨Gz, 2, none⟩ = some (.int .i64 7) := by rw [(HKz.out.below hb HKz.out.lt).cell]; rfl
  have qGz3 : n7.cell? ⟨Gz, 3, none⟩ = some (.int .i64 3) := by rw [(HKz.out.below hb HKz.out.lt).cell]; rfl
  have qGa3 : n7.cell? ⟨Ga, 3, none⟩ = some (.int .i64 3) := by rw [(HKa5.out.below hb HKa5.out.lt).cell]; rfl
  have qGa2 : n7.cell? ⟨Ga, 2, none⟩ = some (.int .i64 2) := by rw [(HKa5.out.below hb HKa5.out.lt).cell]; rfl
  have qGb2 : n7.cell? ⟨Gb, 2, none⟩ = some (.int .i64 2) := by rw [(HKb.out.below hb HKb.out.lt).cell]; rfl
  clear hb hv6 HL6 HKw HKx HKy HKz HKa5 HKb
  go_wp2_with fail
  go_ret
  exact ⟨rfl, HL7.out⟩
end Go.Proofs.YtgbhnjkigjecmaaGreatDoor.Hp
