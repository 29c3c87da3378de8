/-
  law07's small case comes out right, over this seat's translation.
-/
import Derived.Test.YtgjgffiogknefaaRcFrame
namespace Go.Proofs.Ytgjgffiogknefaa.Rc
open Go.RowKit Go.Proofs.Ytgjgffiogknefaa.Wd

theorem src_lt {w : World} {A : Option Addr} {n : Nat} {xs : List UInt8} (h : Src w A n xs) (hn : 0 < n) : ∀ x, A = some x → x.block < w.heap.size := by
  obtain ⟨ad, rfl, hlt, _⟩ := h.2 hn
  intro x hx
  injection hx with hx
  subst hx
  exact hlt
/-- bytes of the call's own, at least one: where they lie -/
theorem own_row {w : World} {B : Nat} {v : Value} {xs : List UInt8} (h : Own w B v xs) (h0 : 0 < xs.length) : ∃ q c, v = .slice (some ⟨q, 0, none⟩) xs.length c ∧ B ≤ q ∧ Src w (some ⟨q, 0, none⟩) xs.length xs := by
  obtain ⟨A, c, rfl, -, hs⟩ := h.src
  obtain ⟨_, ⟨_, hn⟩ | ⟨g, cap, cur, hv, hB, _⟩⟩ := h
  · omega
  · injection hv with hv _ _
    subst hv
    exact ⟨g, c, rfl, hB, hs⟩
theorem small_frame : frameS (sizeK 2) [97, 98, 99] = [22, 3, 1, 0, 2, 97, 98, 22, 3, 1, 0, 1, 99] := by
  rw [show sizeK 2 = 1 from rfl, frameS_cons 1 _ (by simp)]
  rw [show ([97, 98, 99] : List UInt8).drop (1 + 1) = [99] from rfl, frameS_cons 1 _ (by simp), show ([99] : List UInt8).drop (1 + 1) = [] from rfl, frameS_nil]
  rfl
set_option maxRecDepth 100000 in
set_option maxHeartbeats 2000000 in
theorem small_any (w : World) : Calls Try.prog 9 #[] w fun e w' => e = .returned (.bool true) ∧ Below w.heap.size w w' := by
  have kc := Lib.run_convert_bytes_const (P := Try.prog) w 22 5 #[.int .u8 97, .int .u8 98, .int .u8 99] 3 3 Try.underlying22 Try.underlying5
  go_enter Try.func9, Try.ntmps9
  go_wp2_with fail
  obtain ⟨hs, hbut⟩ := cst_world w #[.int .u8 97, .int .u8 98, .int .u8 99] (3, 3 + 1) [97, 98, 99] rfl
  have hS0 := Lib.hid hs
  have HB0 := Lib.hid (hbut.below (by simp) (Nat.le_refl _))
  clear hs hbut kc
  generalize w.alloc _ = w0 at *
  refine (frame_any w0 _ 3 3 [97, 98, 99] 2 hS0.out (Nat.le_refl _) (by decide)).mono ?_
  rw [small_frame]
  rintro e w1 ⟨v, rfl, hO, hb⟩
  obtain ⟨A1, c1, rfl, -, hs1⟩ := own_row hO (by decide)
  rw [show ([22, 3, 1, 0, 2, 97, 98, 22, 3, 1, 0, 1, 99] : List UInt8).length = 13 from rfl] at *
  have HS1 := Lib.hid hs1
  have HB1 := Lib.hid (HB0.out.trans (hb.mono HB0.out.size))
  clear hO hs1 hb hS0 HB0
  go_wp2_with fail
  refine (all_any w1 _ 13 c1 _ HS1.out (by decide)).mono ?_
  rintro e w2 ⟨v, rfl, hO, hb⟩
  rw [show atI (atD (D.st 0) [22, 3, 1, 0, 2, 97, 98, 22, 3, 1, 0, 1, 99]) = -1 from by decide, show (runD (D.st 0) [22, 3, 1, 0, 2, 97, 98, 22, 3, 1, 0, 1, 99]).e = 0 from by decide]
  obtain ⟨A2, c2, rfl, -, hs2, -⟩ := (show Own w2 w1.heap.size v [97, 98, 99] from hO).cut_
  rw [show ([97, 98, 99] : List UInt8).length = 3 from rfl] at *
  have HS2 := Lib.hid hs2
  have HT2 := Lib.hid (HS1.out.below hb)
  have HB2 := Lib.hid (HB1.out.trans (hb.mono HB1.out.size))
  clear hO hs2 hb HS1 HB1
  have hx := fun (u : World) => Src.marked u #[.int .u8 22, .int .u8 3, .int .u8 1, .int .u8 65] 5 (0, 0) [22, 3, 1, 65] rfl
  have hy := fun (u : World) => Src.marked u #[.int .u8 22, .int .u8 3, .int .u8 1, .int .u8 0, .int .u8 0] 5 (0, 0) [22, 3, 1, 0, 0] rfl
  have hz := fun (u : World) => Src.marked u #[.int .u8 21] 5 (0, 0) [21] rfl
  have HX := Lib.hid hx
  have HY := Lib.hid hy
  have HZ := Lib.hid hz
  clear hx hy hz
  have HB2a := Lib.hid (show Below w.heap.size w (w2.alloc (.cells #[.int .u8 22, .int .u8 3, .int .u8 1, .int .u8 65] 5)) from HB2.out.alloc HB2.out.size _)
  have HT2a := Lib.hid (HT2.out.alloc (.cells #[.int .u8 22, .int .u8 3, .int .u8 1, .int .u8 65] 5))
  have HS2a := Lib.hid (HS2.out.alloc (.cells #[.int .u8 22, .int .u8 3, .int .u8 1, .int .u8 65] 5))
  go_wp2_with fail
  refine (all_any _ _ 4 4 [22, 3, 1, 65] (HX.out w2) (by decide)).mono ?_
  generalize w2.alloc (.cells #[.int .u8 22, .int .u8 3, .int .u8 1, .int .u8 65] 5) = w3 at *
  rintro e w4 ⟨v4, rfl, hO, hb⟩
  rw [show atI (atD (D.st 0) [22, 3, 1, 65]) = 3 from by decide, show (runD (D.st 0) [22, 3, 1, 65]).e = 6 from by decide]
  have HS4 := Lib.hid (HS2a.out.below hb)
  have HT4 := Lib.hid (HT2a.out.below hb)
  have HB4 := Lib.hid (HB2a.out.trans (hb.mono HB2a.out.size))
  clear hO hb HX HB2 HS2 HT2 HB2a HS2a HT2a
  have HBa := Lib.hid (show Below w.heap.size w (w4.alloc (.cells #[.int .u8 22, .int .u8 3, .int .u8 1, .int .u8 0, .int .u8 0] 5)) from HB4.out.alloc HB4.out.size _)
  have HTa := Lib.hid (HT4.out.alloc (.cells #[.int .u8 22, .int .u8 3, .int .u8 1, .int .u8 0, .int .u8 0] 5))
  have HSa := Lib.hid (HS4.out.alloc (.cells #[.int .u8 22, .int .u8 3, .int .u8 1, .int .u8 0, .int .u8 0] 5))
  go_wp2_with fail
  refine (all_any _ _ 5 5 [22, 3, 1, 0, 0] (HY.out w4) (by decide)).mono ?_
  generalize w4.alloc (.cells #[.int .u8 22, .int .u8 3, .int .u8 1, .int .u8 0, .int .u8 0] 5) = w5 at *
  rintro e w6 ⟨v6, rfl, hO, hb⟩
  rw [show atI (atD (D.st 0) [22, 3, 1, 0, 0]) = 4 from by decide, show (runD (D.st 0) [22, 3, 1, 0, 0]).e = 6 from by decide]
  have HS6 := Lib.hid (HSa.out.below hb)
  have HT6 := Lib.hid (HTa.out.below hb)
  have HB6 := Lib.hid (HBa.out.trans (hb.mono HBa.out.size))
  clear hO hb HY HB4 HS4 HT4 HBa HSa HTa
  have HBb := Lib.hid (show Below w.heap.size w (w6.alloc (.cells #[.int .u8 21] 5)) from HB6.out.alloc HB6.out.size _)
  have HTb := Lib.hid (HT6.out.alloc (.cells #[.int .u8 21] 5))
  have HSb := Lib.hid (HS6.out.alloc (.cells #[.int .u8 21] 5))
  go_wp2_with fail
  refine (all_any _ _ 1 1 [21] (HZ.out w6) (by decide)).mono ?_
  generalize w6.alloc (.cells #[.int .u8 21] 5) = w7 at *
  rintro e w8 ⟨v8, rfl, hO, hb⟩
  rw [show atI (atD (D.st 0) [21]) = 0 from by decide, show (runD (D.st 0) [21]).e = 4 from by decide]
  have HS8 := Lib.hid (HSb.out.below hb)
  have HT8 := Lib.hid (HTb.out.below hb)
  have HB8 := Lib.hid (HBb.out.trans (hb.mono HBb.out.size))
  clear hO hb HZ HB6 HS6 HT6 HBb HSb HTb
  go_wp2_with fail
  refine (new_any w8).mono ?_
  rintro e w9 ⟨rfl, hr, hb⟩
  have HSl := Lib.hid (src_lt HS8.out (by decide))
  have HTl := Lib.hid (src_lt HT8.out (by decide))
  have hgw : w.heap.size ≤ w8.heap.size := HB8.out.size
  have HS9 := Lib.hid (HS8.out.below hb)
  have HT9 := Lib.hid (HT8.out.below hb)
  have HB9 := Lib.hid (HB8.out.trans (hb.mono HB8.out.size))
  have HR9 := Lib.hid hr
  clear hr hb HS8 HT8 HB8
  generalize w8.heap.size = g at *
  go_wp2_with fail
  refine (take_any HR9.out (OkD.st 0) (by decide) 22).mono ?_
  rintro e w10 ⟨rfl, hr, hb⟩
  have HS10 := Lib.hid (HS9.out.but hb (fun _ x hx => by have := HSl.out x hx; simp; omega))
  have HT10 := Lib.hid (HT9.out.but hb (fun _ x hx => by have := HTl.out x hx; simp; omega))
  have HB10 := Lib.hid (HB9.out.trans (hb.below (by simpa using hgw) HB9.out.size))
  have HR10 := Lib.hid (show Rd w10 g ⟨1, 0, 0, 0⟩ from hr)
  clear hr hb HS9 HT9 HB9 HR9
  go_wp2_with fail
  refine (open_any HR10.out).mono ?_
  rintro e w11 ⟨rfl, rfl⟩
  rw [show decide ((⟨1, 0, 0, 0⟩ : D).e = 0 ∧ (⟨1, 0, 0, 0⟩ : D).a ≠ 0) = true from rfl]
  go_wp2_with fail
  refine (take_any HR10.out (by refine ⟨?_, ?_, ?_, ?_⟩ <;> simp) (by decide) 2).mono ?_
  rintro e w12 ⟨rfl, hr, hb⟩
  rw [show payD ⟨1, 0, 0, 0⟩ = false from rfl, show (stepD ⟨1, 0, 0, 0⟩ 2).e = 5 from rfl]
  have HS12 := Lib.hid (HS10.out.but hb (fun _ x hx => by have := HSl.out x hx; simp; omega))
  have HT12 := Lib.hid (HT10.out.but hb (fun _ x hx => by have := HTl.out x hx; simp; omega))
  have HB12 := Lib.hid (HB10.out.trans (hb.below (by simpa using hgw) HB10.out.size))
  have HR12 := Lib.hid (show Rd w12 g ⟨1, 0, 0, 5⟩ from hr)
  clear hr hb HS10 HT10 HB10 HR10
  go_wp2_with fail
  refine (take_any HR12.out (by refine ⟨?_, ?_, ?_, ?_⟩ <;> simp) (by decide) 3).mono ?_
  rintro e w13 ⟨rfl, hr, hb⟩
  rw [show payD ⟨1, 0, 0, 5⟩ = false from rfl, show (stepD ⟨1, 0, 0, 5⟩ 3).e = 5 from rfl]
  have HS13 := Lib.hid (HS12.out.but hb (fun _ x hx => by have := HSl.out x hx; simp; omega))
  have HT13 := Lib.hid (HT12.out.but hb (fun _ x hx => by have := HTl.out x hx; simp; omega))
  have HB13 := Lib.hid (HB12.out.trans (hb.below (by simpa using hgw) HB12.out.size))
  have HR13 := Lib.hid (show Rd w13 g ⟨1, 0, 0, 5⟩ from hr)
  clear hr hb HS12 HT12 HB12 HR12
  obtain ⟨ad, hae, -, hc⟩ := HT13.out.2 (by decide)
  injection hae with hae
  subst hae
  have c3 : w13.cell? ⟨A1, 3, none⟩ = some (.int .u8 0) := hc 3 0 rfl
  have c4 : w13.cell? ⟨A1, 4, none⟩ = some (.int .u8 2) := hc 4 2 rfl
  have c12 : w13.cell? ⟨A1, 12, none⟩ = some (.int .u8 99) := hc 12 99 rfl
  have k2 := con8 (c := c2) HS13.out
  clear hc HS13 HT13
  go_wp2_with fail
  refine (open_any HR13.out).mono ?_
  rintro e w14 ⟨rfl, rfl⟩
  rw [show decide ((⟨1, 0, 0, 5⟩ : D).e = 0 ∧ (⟨1, 0, 0, 5⟩ : D).a ≠ 0) = false from rfl]
  go_wp2_with fail
  refine (count_any HR13.out).mono ?_
  rintro e w14 ⟨rfl, rfl⟩
  go_wp2_with fail
  go_ret
  exact ⟨rfl, HB13.out⟩
end Go.Proofs.Ytgjgffiogknefaa.Rc
