/-
 Contract of the document's own Take of layer 7 (hagioscoperef07): the same step.
-/
import Derived.Test.YthfknndjdfofgaaGreatDoorQ16
import Derived.Test.YthfknndjdfofgaaGreatDoorQ01
import Derived.Test.YthfknndjdfofgaaGreatDoorQ03
import Derived.Deep.QuietTactic
import Derived.BigQuiet
namespace Go.Proofs.YthfknndjdfofgaaGreatDoor.Rc
open Go.RowKit Go.Proofs.YthfknndjdfofgaaGreatDoor.Wd

def Rr (w : World) (g : Nat) (d : D) : Prop :=
 ∃ A S : Nat, Blk w g 54 #[.int .i64 (A : Int), .int .i64 (S : Int), .int .i64 (d.e : Int), .int .i64 (d.n : Int)] ∧ S ≤ 70000 ∧ A ≤ 100000 ∧
   (d.e = 0 → (d.a ≤ 4 → A = d.a) ∧ (d.a = 4 → S = d.l) ∧ (d.a = 5 → 5 ≤ A ∧ S + 5 = A + d.l))
theorem Rr.but {T : List Nat} {w w' : World} {g : Nat} {d : D} (h : Rr w g d) (k : But T w w') (hg : g ∉ T) : Rr w' g d := by
 obtain ⟨A, S, h1, h2⟩ := h
 exact ⟨A, S, h1.but k hg, h2⟩
def RTakePost (w : World) (g : Nat) (d : D) (c : UInt8) (e : Ending) (w' : World) : Prop :=
 e = .returned (.tuple #[.bool (payD d), .int .i64 ((stepD d c).e : Int)]) ∧ Rr w' g (stepD d c) ∧ But [g] w w'
section
variable {w : World} {g l n S : Nat} {c : UInt8}
set_option maxRecDepth 100000
set_option maxHeartbeats 1000000
theorem rtake_bad {a e A : Nat} (h : Blk w g 54 #[.int .i64 (A : Int), .int .i64 (S : Int), .int .i64 (e : Int), .int .i64 (n : Int)]) (he : e ≠ 0) (hS : S ≤ 70000) (hA : A ≤ 100000) :
   Calls Tryz.prog 22 #[.pointer (some ⟨g, 0, none⟩), .int .u8 (c.toNat : Int)] w (RTakePost w g ⟨a, l, n, e⟩ c) := by
 have HB := Lib.hid h
 have hc2 : w.cell? ⟨g, 2, none⟩ = some (.int .i64 (e : Int)) := by rw [Blk.cell h]; rfl
 have hei : (e : Int) ≠ 0 := by omega
 have HP := Lib.hid (payD_no (d := ⟨a, l, n, e⟩) he)
 have HS := Lib.hid (stepD_stay (d := ⟨a, l, n, e⟩) he c)
 unfold RTakePost
 rw [HP.out, HS.out]
 clear h
 go_enter Tryz.func22, Tryz.ntmps22
 go_wp2
 go_quiet (fail)
 go_wp2
 go_ret2
 exact ⟨rfl, ⟨A, S, HB.out, hS, hA, fun h0 => absurd h0 he⟩, (But.refl _ _).drewN _⟩
theorem rtake_0 (h : Blk w g 54 #[.int .i64 (0 : Int), .int .i64 (S : Int), .int .i64 (0 : Int), .int .i64 (n : Int)]) (hS : S ≤ 70000) :
   Calls Tryz.prog 22 #[.pointer (some ⟨g, 0, none⟩), .int .u8 (c.toNat : Int)] w (RTakePost w g ⟨0, l, n, 0⟩ c) := by
 have HB := Lib.hid h
 have hc0 : w.cell? ⟨g, 0, none⟩ = some (.int .i64 0) := by rw [Blk.cell h]; rfl
 have hc1 : w.cell? ⟨g, 1, none⟩ = some (.int .i64 (S : Int)) := by rw [Blk.cell h]; rfl
 have hc2 : w.cell? ⟨g, 2, none⟩ = some (.int .i64 0) := by rw [Blk.cell h]; rfl
 have hf0 := Blk.frozen h 0
 have hf1 := Blk.frozen h 1
 have hf2 := Blk.frozen h 2
 have hb := c.toNat_lt
 unfold RTakePost
 rw [show payD ⟨0, l, n, 0⟩ = false from rfl]
 by_cases hy : c.toNat = 22
 · have HS := Lib.hid (show stepD ⟨0, l, n, 0⟩ c = ⟨1, l, n, 0⟩ from by unfold stepD; rw [if_neg (by simp), if_pos rfl, if_pos hy])
   rw [HS.out]
   generalize c.toNat = b at *
   have hv : S ≤ 70000 := by omega
   have hbi : (b : Int) = 22 := by omega
   have hne : (1 : Int) ≠ 5 + ((S : Int)) := by omega
   have hwr : IntKind.i64.wrap (5 + ((S : Int))) = 5 + ((S : Int)) := IntWalk.i64_in _ (by omega)
   clear h hy
   go_enter Tryz.func22, Tryz.ntmps22
   go_wp2
   have hk := blk_0 (x := .int .i64 1) HB.out
   have hu := but_set (But.refl [g] w) 0 (.int .i64 1)
   have HK := Lib.hid hk
   have HU := Lib.hid hu
   clear hc0 hc1 hc2 hf0 hf1 hf2 HB hu
   generalize w.setCell ⟨g, 0, none⟩ (.int .i64 1) = w2 at *
   have hc0 : w2.cell? ⟨g, 0, none⟩ = some (.int .i64 1) := by rw [hk.cell]; rfl
   have hc1 : w2.cell? ⟨g, 1, none⟩ = some (.int .i64 ((S : Int))) := by rw [hk.cell]; rfl
   clear hk
   go_quiet (fail)
   go_wp2
   go_ret2
   exact ⟨rfl, ⟨1, S, by first | exact HK.out | (simpa using HK.out), hv, by omega, fun _ => ⟨fun _ => rfl, fun h => absurd (show (1 : Nat) = 4 from h) (by decide), fun h => absurd (show (1 : Nat) = 5 from h) (by decide)⟩⟩, HU.out.drewN _⟩
 · have HS := Lib.hid (show stepD ⟨0, l, n, 0⟩ c = ⟨0, l, n, 4⟩ from by unfold stepD; rw [if_neg (by simp), if_pos rfl, if_neg hy])
   rw [HS.out]
   generalize c.toNat = b at *
   have hv : S ≤ 70000 := by omega
   have hbi : (b : Int) ≠ 22 := by omega
   clear h hy
   go_enter Tryz.func22, Tryz.ntmps22
   go_wp2
   have hk := blk_2 (x := .int .i64 4) HB.out
   have HK := Lib.hid hk
   have HU := Lib.hid (but_set (But.refl [g] w) 2 (.int .i64 4))
   clear hc0 hc1 hc2 hf0 hf1 hf2 HB
   generalize w.setCell ⟨g, 2, none⟩ (.int .i64 4) = w2 at *
   have hc2 : w2.cell? ⟨g, 2, none⟩ = some (.int .i64 4) := by rw [hk.cell]; rfl
   clear hk
   go_quiet (fail)
   go_wp2
   go_ret2
   exact ⟨rfl, ⟨0, S, by first | exact HK.out | (simpa using HK.out), hv, by omega, fun h => absurd (show (4 : Nat) = 0 from h) (by decide)⟩, HU.out.drewN _⟩
theorem rtake_1 (h : Blk w g 54 #[.int .i64 (1 : Int), .int .i64 (S : Int), .int .i64 (0 : Int), .int .i64 (n : Int)]) (hS : S ≤ 70000) :
   Calls Tryz.prog 22 #[.pointer (some ⟨g, 0, none⟩), .int .u8 (c.toNat : Int)] w (RTakePost w g ⟨1, l, n, 0⟩ c) := by
 have HB := Lib.hid h
 have hc0 : w.cell? ⟨g, 0, none⟩ = some (.int .i64 1) := by rw [Blk.cell h]; rfl
 have hc1 : w.cell? ⟨g, 1, none⟩ = some (.int .i64 (S : Int)) := by rw [Blk.cell h]; rfl
 have hc2 : w.cell? ⟨g, 2, none⟩ = some (.int .i64 0) := by rw [Blk.cell h]; rfl
 have hf0 := Blk.frozen h 0
 have hf1 := Blk.frozen h 1
 have hf2 := Blk.frozen h 2
 have hb := c.toNat_lt
 unfold RTakePost
 rw [show payD ⟨1, l, n, 0⟩ = false from rfl]
 by_cases hy : c.toNat = 3
 · have HS := Lib.hid (show stepD ⟨1, l, n, 0⟩ c = ⟨2, l, n, 0⟩ from by unfold stepD; rw [if_neg (by simp), if_neg (by simp), if_pos rfl, if_pos hy])
   rw [HS.out]
   generalize c.toNat = b at *
   have hv : S ≤ 70000 := by omega
   have hbi : (b : Int) = 3 := by omega
   have hne : (2 : Int) ≠ 5 + ((S : Int)) := by omega
   have hwr : IntKind.i64.wrap (5 + ((S : Int))) = 5 + ((S : Int)) := IntWalk.i64_in _ (by omega)
   clear h hy
   go_enter Tryz.func22, Tryz.ntmps22
   go_wp2
   have hk := blk_0 (x := .int .i64 2) HB.out
   have hu := but_set (But.refl [g] w) 0 (.int .i64 2)
   have HK := Lib.hid hk
   have HU := Lib.hid hu
   clear hc0 hc1 hc2 hf0 hf1 hf2 HB hu
   generalize w.setCell ⟨g, 0, none⟩ (.int .i64 2) = w2 at *
   have hc0 : w2.cell? ⟨g, 0, none⟩ = some (.int .i64 2) := by rw [hk.cell]; rfl
   have hc1 : w2.cell? ⟨g, 1, none⟩ = some (.int .i64 ((S : Int))) := by rw [hk.cell]; rfl
   clear hk
   go_quiet (fail)
   go_wp2
   go_ret2
   exact ⟨rfl, ⟨2, S, by first | exact HK.out | (simpa using HK.out), hv, by omega, fun _ => ⟨fun _ => rfl, fun h => absurd (show (2 : Nat) = 4 from h) (by decide), fun h => absurd (show (2 : Nat) = 5 from h) (by decide)⟩⟩, HU.out.drewN _⟩
 · have HS := Lib.hid (show stepD ⟨1, l, n, 0⟩ c = ⟨1, l, n, 5⟩ from by unfold stepD; rw [if_neg (by simp), if_neg (by simp), if_pos rfl, if_neg hy])
   rw [HS.out]
   generalize c.toNat = b at *
   have hv : S ≤ 70000 := by omega
   have hbi : (b : Int) ≠ 3 := by omega
   clear h hy
   go_enter Tryz.func22, Tryz.ntmps22
   go_wp2
   have hk := blk_2 (x := .int .i64 5) HB.out
   have HK := Lib.hid hk
   have HU := Lib.hid (but_set (But.refl [g] w) 2 (.int .i64 5))
   clear hc0 hc1 hc2 hf0 hf1 hf2 HB
   generalize w.setCell ⟨g, 2, none⟩ (.int .i64 5) = w2 at *
   have hc2 : w2.cell? ⟨g, 2, none⟩ = some (.int .i64 5) := by rw [hk.cell]; rfl
   clear hk
   go_quiet (fail)
   go_wp2
   go_ret2
   exact ⟨rfl, ⟨1, S, by first | exact HK.out | (simpa using HK.out), hv, by omega, fun h => absurd (show (5 : Nat) = 0 from h) (by decide)⟩, HU.out.drewN _⟩
theorem rtake_2 (h : Blk w g 54 #[.int .i64 (2 : Int), .int .i64 (S : Int), .int .i64 (0 : Int), .int .i64 (n : Int)]) (hS : S ≤ 70000) :
   Calls Tryz.prog 22 #[.pointer (some ⟨g, 0, none⟩), .int .u8 (c.toNat : Int)] w (RTakePost w g ⟨2, l, n, 0⟩ c) := by
 have HB := Lib.hid h
 have hc0 : w.cell? ⟨g, 0, none⟩ = some (.int .i64 2) := by rw [Blk.cell h]; rfl
 have hc1 : w.cell? ⟨g, 1, none⟩ = some (.int .i64 (S : Int)) := by rw [Blk.cell h]; rfl
 have hc2 : w.cell? ⟨g, 2, none⟩ = some (.int .i64 0) := by rw [Blk.cell h]; rfl
 have hf0 := Blk.frozen h 0
 have hf1 := Blk.frozen h 1
 have hf2 := Blk.frozen h 2
 have hb := c.toNat_lt
 unfold RTakePost
 rw [show payD ⟨2, l, n, 0⟩ = false from rfl]
 by_cases hy : c.toNat ≤ 4
 · have HS := Lib.hid (show stepD ⟨2, l, n, 0⟩ c = ⟨3, l, n, 0⟩ from by unfold stepD; rw [if_neg (by simp), if_neg (by simp), if_neg (by simp), if_pos rfl, if_pos hy])
   rw [HS.out]
   generalize c.toNat = b at *
   have hv : S ≤ 70000 := by omega
   have hbi : (b : Int) ≤ 4 := by omega
   have hne : (3 : Int) ≠ 5 + ((S : Int)) := by omega
   have hwr : IntKind.i64.wrap (5 + ((S : Int))) = 5 + ((S : Int)) := IntWalk.i64_in _ (by omega)
   clear h hy
   go_enter Tryz.func22, Tryz.ntmps22
   go_wp2
   have hk := blk_0 (x := .int .i64 3) HB.out
   have hu := but_set (But.refl [g] w) 0 (.int .i64 3)
   have HK := Lib.hid hk
   have HU := Lib.hid hu
   clear hc0 hc1 hc2 hf0 hf1 hf2 HB hu
   generalize w.setCell ⟨g, 0, none⟩ (.int .i64 3) = w2 at *
   have hc0 : w2.cell? ⟨g, 0, none⟩ = some (.int .i64 3) := by rw [hk.cell]; rfl
   have hc1 : w2.cell? ⟨g, 1, none⟩ = some (.int .i64 ((S : Int))) := by rw [hk.cell]; rfl
   clear hk
   go_quiet (fail)
   go_wp2
   go_ret2
   exact ⟨rfl, ⟨3, S, by first | exact HK.out | (simpa using HK.out), hv, by omega, fun _ => ⟨fun _ => rfl, fun h => absurd (show (3 : Nat) = 4 from h) (by decide), fun h => absurd (show (3 : Nat) = 5 from h) (by decide)⟩⟩, HU.out.drewN _⟩
 · have HS := Lib.hid (show stepD ⟨2, l, n, 0⟩ c = ⟨2, l, n, 5⟩ from by unfold stepD; rw [if_neg (by simp), if_neg (by simp), if_neg (by simp), if_pos rfl, if_neg hy])
   rw [HS.out]
   generalize c.toNat = b at *
   have hv : S ≤ 70000 := by omega
   have hbi : 4 < (b : Int) := by omega
   clear h hy
   go_enter Tryz.func22, Tryz.ntmps22
   go_wp2
   have hk := blk_2 (x := .int .i64 5) HB.out
   have HK := Lib.hid hk
   have HU := Lib.hid (but_set (But.refl [g] w) 2 (.int .i64 5))
   clear hc0 hc1 hc2 hf0 hf1 hf2 HB
   generalize w.setCell ⟨g, 2, none⟩ (.int .i64 5) = w2 at *
   have hc2 : w2.cell? ⟨g, 2, none⟩ = some (.int .i64 5) := by rw [hk.cell]; rfl
   clear hk
   go_quiet (fail)
   go_wp2
   go_ret2
   exact ⟨rfl, ⟨2, S, by first | exact HK.out | (simpa using HK.out), hv, by omega, fun h => absurd (show (5 : Nat) = 0 from h) (by decide)⟩, HU.out.drewN _⟩
theorem rtake_3 (h : Blk w g 54 #[.int .i64 (3 : Int), .int .i64 (S : Int), .int .i64 (0 : Int), .int .i64 (n : Int)]) (_hS : S ≤ 70000) :
   Calls Tryz.prog 22 #[.pointer (some ⟨g, 0, none⟩), .int .u8 (c.toNat : Int)] w (RTakePost w g ⟨3, l, n, 0⟩ c) := by
 have HB := Lib.hid h
 have hc0 : w.cell? ⟨g, 0, none⟩ = some (.int .i64 3) := by rw [Blk.cell h]; rfl
 have hc1 : w.cell? ⟨g, 1, none⟩ = some (.int .i64 (S : Int)) := by rw [Blk.cell h]; rfl
 have hc2 : w.cell? ⟨g, 2, none⟩ = some (.int .i64 0) := by rw [Blk.cell h]; rfl
 have hf0 := Blk.frozen h 0
 have hf1 := Blk.frozen h 1
 have hf2 := Blk.frozen h 2
 have hb := c.toNat_lt
 unfold RTakePost
 rw [show payD ⟨3, l, n, 0⟩ = false from rfl]
 by_cases hy : c.toNat * 256 ≤ 16384
 · have HS := Lib.hid (show stepD ⟨3, l, n, 0⟩ c = ⟨4, c.toNat * 256, n, 0⟩ from by unfold stepD; rw [if_neg (by simp), if_neg (by simp), if_neg (by simp), if_neg (by simp), if_pos rfl, if_pos hy])
   rw [HS.out]
   generalize c.toNat = b at *
   have hv : b * 256 ≤ 70000 := by omega
   have hbi : (b : Int) * 256 ≤ 16384 := by omega
   have hne : (4 : Int) ≠ 5 + ((b : Int) * 256) := by omega
   have hwr : IntKind.i64.wrap (5 + ((b : Int) * 256)) = 5 + ((b : Int) * 256) := IntWalk.i64_in _ (by omega)
   clear h hy
   go_enter Tryz.func22, Tryz.ntmps22
   go_wp2
   have hk := blk_0 (x := .int .i64 4) (blk_1 (x := .int .i64 ((b : Int) * 256)) HB.out)
   have hu := but_set (but_set (But.refl [g] w) 1 (.int .i64 ((b : Int) * 256))) 0 (.int .i64 4)
   have HK := Lib.hid hk
   have HU := Lib.hid hu
   clear hc0 hc1 hc2 hf0 hf1 hf2 HB hu
   generalize (w.setCell ⟨g, 1, none⟩ (.int .i64 ((b : Int) * 256))).setCell ⟨g, 0, none⟩ (.int .i64 4) = w2 at *
   have hc0 : w2.cell? ⟨g, 0, none⟩ = some (.int .i64 4) := by rw [hk.cell]; rfl
   have hc1 : w2.cell? ⟨g, 1, none⟩ = some (.int .i64 ((b : Int) * 256)) := by rw [hk.cell]; rfl
   clear hk
   go_quiet (fail)
   go_wp2
   go_ret2
   exact ⟨rfl, ⟨4, b * 256, by first | exact HK.out | (simpa using HK.out), hv, by omega, fun _ => ⟨fun _ => rfl, fun _ => rfl, fun h => absurd (show (4 : Nat) = 5 from h) (by decide)⟩⟩, HU.out.drewN _⟩
 · have HS := Lib.hid (show stepD ⟨3, l, n, 0⟩ c = ⟨3, c.toNat * 256, n, 6⟩ from by unfold stepD; rw [if_neg (by simp), if_neg (by simp), if_neg (by simp), if_neg (by simp), if_pos rfl, if_neg hy])
   rw [HS.out]
   generalize c.toNat = b at *
   have hv : b * 256 ≤ 70000 := by omega
   have hbi : 16384 < (b : Int) * 256 := by omega
   clear h hy
   go_enter Tryz.func22, Tryz.ntmps22
   go_wp2
   have hk := blk_2 (x := .int .i64 6) (blk_1 (x := .int .i64 ((b : Int) * 256)) HB.out)
   have HK := Lib.hid hk
   have HU := Lib.hid (but_set (but_set (But.refl [g] w) 1 (.int .i64 ((b : Int) * 256))) 2 (.int .i64 6))
   clear hc0 hc1 hc2 hf0 hf1 hf2 HB
   generalize (w.setCell ⟨g, 1, none⟩ (.int .i64 ((b : Int) * 256))).setCell ⟨g, 2, none⟩ (.int .i64 6) = w2 at *
   have hc2 : w2.cell? ⟨g, 2, none⟩ = some (.int .i64 6) := by rw [hk.cell]; rfl
   clear hk
   go_quiet (fail)
   go_wp2
   go_ret2
   exact ⟨rfl, ⟨3, b * 256, by first | exact HK.out | (simpa using HK.out), hv, by omega, fun h => absurd (show (6 : Nat) = 0 from h) (by decide)⟩, HU.out.drewN _⟩
theorem rtake_4 (h : Blk w g 54 #[.int .i64 (4 : Int), .int .i64 (S : Int), .int .i64 (0 : Int), .int .i64 (n : Int)]) (hS : S ≤ 70000) (hl : S ≤ 16384) :
   Calls Tryz.prog 22 #[.pointer (some ⟨g, 0, none⟩), .int .u8 (c.toNat : Int)] w (RTakePost w g ⟨4, S, n, 0⟩ c) := by
 have HB := Lib.hid h
 have hc0 : w.cell? ⟨g, 0, none⟩ = some (.int .i64 4) := by rw [Blk.cell h]; rfl
 have hc1 : w.cell? ⟨g, 1, none⟩ = some (.int .i64 (S : Int)) := by rw [Blk.cell h]; rfl
 have hc2 : w.cell? ⟨g, 2, none⟩ = some (.int .i64 0) := by rw [Blk.cell h]; rfl
 have hf0 := Blk.frozen h 0
 have hf1 := Blk.frozen h 1
 have hf2 := Blk.frozen h 2
 have hb := c.toNat_lt
 unfold RTakePost
 rw [show payD ⟨4, S, n, 0⟩ = false from rfl]
 by_cases hy : 1 ≤ S + c.toNat ∧ S + c.toNat ≤ 16384
 · have HS := Lib.hid (show stepD ⟨4, S, n, 0⟩ c = ⟨5, S + c.toNat, n, 0⟩ from by unfold stepD; rw [if_neg (by simp), if_neg (by simp), if_neg (by simp), if_neg (by simp), if_neg (by simp), if_pos rfl, if_pos hy])
   rw [HS.out]
   generalize c.toNat = b at *
   obtain ⟨v, hvv⟩ : ∃ v, v = S + b := ⟨_, rfl⟩
   rw [← hvv]
   have hadd : (S : Int) + (b : Int) = (v : Int) := by omega
   have hv : v ≤ 70000 := by omega
   have hbi : 1 ≤ (v : Int) := by omega
   have hbj : (v : Int) ≤ 16384 := by omega
   have hbk : ((v : Int) == 0) = false := by rw [beq_eq_false_iff_ne]; omega
   have hbl : ¬ v = 0 := by omega
   have hne : (5 : Int) ≠ 5 + ((v : Int)) := by omega
   have hwr : IntKind.i64.wrap (5 + ((v : Int))) = 5 + ((v : Int)) := IntWalk.i64_in _ (by omega)
   clear h hy hvv
   go_enter Tryz.func22, Tryz.ntmps22
   go_wp2
   have hk := blk_0 (x := .int .i64 5) (blk_1 (x := .int .i64 ((v : Int))) HB.out)
   have hu := but_set (but_set (But.refl [g] w) 1 (.int .i64 ((v : Int)))) 0 (.int .i64 5)
   have HK := Lib.hid hk
   have HU := Lib.hid hu
   clear hc0 hc1 hc2 hf0 hf1 hf2 HB hu
   generalize (w.setCell ⟨g, 1, none⟩ (.int .i64 ((v : Int)))).setCell ⟨g, 0, none⟩ (.int .i64 5) = w2 at *
   have hc0 : w2.cell? ⟨g, 0, none⟩ = some (.int .i64 5) := by rw [hk.cell]; rfl
   have hc1 : w2.cell? ⟨g, 1, none⟩ = some (.int .i64 ((v : Int))) := by rw [hk.cell]; rfl
   clear hk
   go_quiet (fail)
   go_wp2
   go_ret2
   exact ⟨rfl, ⟨5, v, by first | exact HK.out | (simpa using HK.out), hv, by omega, fun _ => ⟨fun h => absurd (show (5 : Nat) ≤ 4 from h) (by decide), fun h => absurd (show (5 : Nat) = 4 from h) (by decide), fun _ => ⟨Nat.le_refl _, by show v + 5 = 5 + (v); omega⟩⟩⟩, HU.out.drewN _⟩
 · have HS := Lib.hid (show stepD ⟨4, S, n, 0⟩ c = ⟨4, S + c.toNat, n, 6⟩ from by unfold stepD; rw [if_neg (by simp), if_neg (by simp), if_neg (by simp), if_neg (by simp), if_neg (by simp), if_pos rfl, if_neg hy])
   rw [HS.out]
   generalize c.toNat = b at *
   obtain ⟨v, hvv⟩ : ∃ v, v = S + b := ⟨_, rfl⟩
   rw [← hvv]
   have hadd : (S : Int) + (b : Int) = (v : Int) := by omega
   have hv : v ≤ 70000 := by omega
   by_cases h0 : v = 0
   · subst h0
     replace hadd : (S : Int) + (b : Int) = 0 := hadd
     clear h hy hvv
     go_enter Tryz.func22, Tryz.ntmps22
     go_wp2
     have hk := blk_2 (x := .int .i64 6) (blk_1 (x := .int .i64 (0 : Int)) HB.out)
     have HK := Lib.hid hk
     have HU := Lib.hid (but_set (but_set (But.refl [g] w) 1 (.int .i64 (0 : Int))) 2 (.int .i64 6))
     clear hc0 hc1 hc2 hf0 hf1 hf2 HB
     generalize (w.setCell ⟨g, 1, none⟩ (.int .i64 (0 : Int))).setCell ⟨g, 2, none⟩ (.int .i64 6) = w2 at *
     have hc2 : w2.cell? ⟨g, 2, none⟩ = some (.int .i64 6) := by rw [hk.cell]; rfl
     clear hk
     go_quiet (fail)
     go_wp2
     go_ret2
     exact ⟨rfl, ⟨4, 0, by first | exact HK.out | (simpa using HK.out), by omega, by omega, fun h => absurd (show (6 : Nat) = 0 from h) (by decide)⟩, HU.out.drewN _⟩
   · have hbk : ((v : Int) == 0) = false := by rw [beq_eq_false_iff_ne]; omega
     have hbl : ¬ v = 0 := h0
     have hbj : 16384 < (v : Int) := by omega
     clear h hy hvv
     go_enter Tryz.func22, Tryz.ntmps22
     go_wp2
     have hk := blk_2 (x := .int .i64 6) (blk_1 (x := .int .i64 ((v : Int))) HB.out)
     have HK := Lib.hid hk
     have HU := Lib.hid (but_set (but_set (But.refl [g] w) 1 (.int .i64 ((v : Int)))) 2 (.int .i64 6))
     clear hc0 hc1 hc2 hf0 hf1 hf2 HB
     generalize (w.setCell ⟨g, 1, none⟩ (.int .i64 ((v : Int)))).setCell ⟨g, 2, none⟩ (.int .i64 6) = w2 at *
     have hc2 : w2.cell? ⟨g, 2, none⟩ = some (.int .i64 6) := by rw [hk.cell]; rfl
     clear hk
     go_quiet (fail)
     go_wp2
     go_ret2
     exact ⟨rfl, ⟨4, v, by first | exact HK.out | (simpa using HK.out), hv, by omega, fun h => absurd (show (6 : Nat) = 0 from h) (by decide)⟩, HU.out.drewN _⟩
theorem rtake_5 {A : Nat} (h : Blk w g 54 #[.int .i64 (A : Int), .int .i64 (S : Int), .int .i64 (0 : Int), .int .i64 (n : Int)]) (hS : S ≤ 70000) (hA : 5 ≤ A) (hE : S + 5 = A + l) (hl : 1 ≤ l) (hn : n ≤ 4611686018427387904) :
   Calls Tryz.prog 22 #[.pointer (some ⟨g, 0, none⟩), .int .u8 (c.toNat : Int)] w (RTakePost w g ⟨5, l, n, 0⟩ c) := by
 have HB := Lib.hid h
 have hc0 : w.cell? ⟨g, 0, none⟩ = some (.int .i64 (A : Int)) := by rw [Blk.cell h]; rfl
 have hc1 : w.cell? ⟨g, 1, none⟩ = some (.int .i64 (S : Int)) := by rw [Blk.cell h]; rfl
 have hc2 : w.cell? ⟨g, 2, none⟩ = some (.int .i64 0) := by rw [Blk.cell h]; rfl
 have hf0 := Blk.frozen h 0
 unfold RTakePost
 rw [show payD ⟨5, l, n, 0⟩ = true from rfl]
 have hA2 : A ≤ 70004 := by omega
 have n0 : (A : Int) ≠ 0 := by omega
 have n1 : (A : Int) ≠ 1 := by omega
 have n2 : (A : Int) ≠ 2 := by omega
 have n3 : (A : Int) ≠ 3 := by omega
 have n4 : (A : Int) ≠ 4 := by omega
 obtain ⟨A1, hA1⟩ : ∃ A1, A1 = A + 1 := ⟨_, rfl⟩
 have hadd : (A : Int) + 1 = (A1 : Int) := by omega
 have h5 : (5 : Int) < (A1 : Int) := by omega
 by_cases h1 : l = 1
 · subst h1
   rw [show stepD ⟨5, 1, n, 0⟩ c = ⟨0, 0, n + 1, 0⟩ from rfl]
   have hwr : IntKind.i64.wrap (5 + (S : Int)) = (A1 : Int) := by rw [IntWalk.i64_in _ (by omega)]; omega
   have HA1 := Lib.hid hA1
   clear h hA1
   go_enter Tryz.func22, Tryz.ntmps22
   go_wp2
   have hk := blk_0 (x := .int .i64 (A1 : Int)) HB.out
   have HK := Lib.hid hk
   have HU := Lib.hid (but_set (But.refl [g] w) 0 (.int .i64 (A1 : Int)))
   clear hc0 hc1 hc2 hf0 HB
   generalize w.setCell ⟨g, 0, none⟩ (.int .i64 (A1 : Int)) = w2 at *
   have hc0 : w2.cell? ⟨g, 0, none⟩ = some (.int .i64 (A1 : Int)) := by rw [hk.cell]; rfl
   have hc1 : w2.cell? ⟨g, 1, none⟩ = some (.int .i64 (S : Int)) := by rw [hk.cell]; rfl
   clear hk
   go_quiet (fail)
   have HK2 := Lib.hid (show Blk (w2.drewN nq) g _ _ from HK.out)
   have HU2 := Lib.hid (HU.out.drewN nq)
   clear hc0 hc1 HK HU
   generalize w2.drewN nq = w3 at *
   have hc0 : w3.cell? ⟨g, 0, none⟩ = some (.int .i64 (A1 : Int)) := by rw [HK2.out.cell]; rfl
   have hc3 : w3.cell? ⟨g, 3, none⟩ = some (.int .i64 (n : Int)) := by rw [HK2.out.cell]; rfl
   have hf0 := HK2.out.frozen 0
   have hf3 := HK2.out.frozen 3
   go_wp2
   go_ret2
   refine ⟨rfl, ⟨0, S, ?_, hS, by omega, fun _ => ⟨fun _ => rfl, fun h => absurd (show (0 : Nat) = 4 from h) (by decide), fun h => absurd (show (0 : Nat) = 5 from h) (by decide)⟩⟩, but_set (but_set HU2.out _ _) _ _⟩
   have hz := blk_3 (x := .int .i64 ((n : Int) + 1)) (blk_0 (x := .int .i64 0) HK2.out)
   first | exact hz | (simpa using hz)
 · have hs : stepD ⟨5, l, n, 0⟩ c = ⟨5, l - 1, n, 0⟩ := by
     unfold stepD
     rw [if_neg (by simp), if_neg (by simp), if_neg (by simp), if_neg (by simp), if_neg (by simp), if_neg (by simp), if_neg h1]
   rw [hs]
   have hwr : IntKind.i64.wrap (5 + (S : Int)) = 5 + (S : Int) := IntWalk.i64_in _ (by omega)
   have hne : (A1 : Int) ≠ 5 + (S : Int) := by omega
   have HE : Hid (S + 5 = A1 + (l - 1)) := by show _ = _; omega
   have hA3 : 5 ≤ A1 ∧ A1 ≤ 100000 := by omega
   clear h hA1 hs hE
   go_enter Tryz.func22, Tryz.ntmps22
   go_wp2
   have hk := blk_0 (x := .int .i64 (A1 : Int)) HB.out
   have HK := Lib.hid hk
   have HU := Lib.hid (but_set (But.refl [g] w) 0 (.int .i64 (A1 : Int)))
   clear hc0 hc1 hc2 hf0 HB
   generalize w.setCell ⟨g, 0, none⟩ (.int .i64 (A1 : Int)) = w2 at *
   have hc0 : w2.cell? ⟨g, 0, none⟩ = some (.int .i64 (A1 : Int)) := by rw [hk.cell]; rfl
   have hc1 : w2.cell? ⟨g, 1, none⟩ = some (.int .i64 (S : Int)) := by rw [hk.cell]; rfl
   clear hk
   go_quiet (fail)
   go_wp2
   go_ret2
   exact ⟨rfl, ⟨A1, S, HK.out, hS, hA3.2, fun _ => ⟨fun h => absurd (show (5 : Nat) ≤ 4 from h) (by decide), fun h => absurd (show (5 : Nat) = 4 from h) (by decide), fun _ => ⟨hA3.1, HE.out⟩⟩⟩, HU.out.drewN _⟩
theorem rtake_any {d : D} (h : Rr w g d) (hd : OkD d) (hn : d.n ≤ 4611686018427387904) :
   Calls Tryz.prog 22 #[.pointer (some ⟨g, 0, none⟩), .int .u8 (c.toNat : Int)] w (RTakePost w g d c) := by
 obtain ⟨a, l, n, e⟩ := d
 obtain ⟨A, S, h1, hS, hA, hr⟩ := h
 obtain ⟨d1, d2, d3, d4⟩ := hd
 simp only at h1 hr d1 d2 d3 d4 hn
 by_cases he : e = 0
 · subst he
   obtain ⟨r1, r2, r3⟩ := hr rfl
   obtain ⟨o1, o2⟩ := d3 rfl
   obtain rfl | rfl | rfl | rfl | rfl | rfl : a = 0 ∨ a = 1 ∨ a = 2 ∨ a = 3 ∨ a = 4 ∨ a = 5 := by omega
   · obtain rfl := r1 (by decide); exact rtake_0 h1 hS
   · obtain rfl := r1 (by decide); exact rtake_1 h1 hS
   · obtain rfl := r1 (by decide); exact rtake_2 h1 hS
   · obtain rfl := r1 (by decide); exact rtake_3 h1 hS
   · obtain rfl := r1 (by decide)
     obtain rfl := r2 rfl
     exact rtake_4 h1 hS (o2 rfl).2
   · exact rtake_5 h1 hS (r3 rfl).1 (r3 rfl).2 (o1 rfl) hn
 · exact rtake_bad h1 he hS hA
end
end Go.Proofs.YthfknndjdfofgaaGreatDoor.Rc

/-
 Contracts of package shake's messages over this seat's translation: New, Want, whole, Body, begin, Take.
-/
namespace Go.Proofs.YthfknndjdfofgaaGreatDoor.Sh
open Go.RowKit Go.Proofs.YthfknndjdfofgaaGreatDoor.Wd

def Rd (w : World) (g : Nat) (p : Option Nat) (m : M) : Prop :=
 ∃ c, Blk w g 94 #[.int .i64 (m.h : Int), .int .i64 (m.s : Int), .slice (ad p) m.b.length c, .int .i64 (m.e : Int)] ∧ At w p c m.b
section
variable {w w' : World} {g : Nat} {p : Option Nat} {m : M} {S : List Nat}
theorem Rd.but (h : Rd w g p m) (k : But S w w') (hg : g ∉ S) (hp : ∀ b, p = some b → b ∉ S) : Rd w' g p m := by
 obtain ⟨c, h1, h2⟩ := h
 exact ⟨c, h1.but k hg, h2.but k hp⟩
theorem Rd.same (h : Rd w g p m) (k : But [] w w') : Rd w' g p m := h.but k (by simp) (by simp)
theorem Rd.lt (h : Rd w g p m) : g < w.heap.size := by
 obtain ⟨c, h1, _⟩ := h
 exact h1.lt
theorem Rd.plt (h : Rd w g p m) {b : Nat} (hb : p = some b) : b < w.heap.size := by
 obtain ⟨c, _, h2⟩ := h
 exact h2.lt hb
theorem Rd.ne (h : Rd w g p m) : p ≠ some g := by
 obtain ⟨c, h1, h2⟩ := h
 exact h2.ne h1 (by decide)
end
theorem set4_0 (a b c d x : Value) : (#[a, b, c, d] : Array Value).setIfInBounds 0 x = #[x, b, c, d] := by simp
theorem set4_1 (a b c d x : Value) : (#[a, b, c, d] : Array Value).setIfInBounds 1 x = #[a, x, c, d] := by simp
theorem set4_2 (a b c d x : Value) : (#[a, b, c, d] : Array Value).setIfInBounds 2 x = #[a, b, x, d] := by simp
theorem set4_3 (a b c d x : Value) : (#[a, b, c, d] : Array Value).setIfInBounds 3 x = #[a, b, c, x] := by simp
section
variable {w : World} {g t : Nat} {a b c d x : Value}
theorem blk_0 (h : Blk w g t #[a, b, c, d]) : Blk (w.setCell ⟨g, 0, none⟩ x) g t #[x, b, c, d] := by have := h.set_ 0 x; rwa [set4_0] at this
theorem blk_1 (h : Blk w g t #[a, b, c, d]) : Blk (w.setCell ⟨g, 1, none⟩ x) g t #[a, x, c, d] := by have := h.set_ 1 x; rwa [set4_1] at this
theorem blk_2 (h : Blk w g t #[a, b, c, d]) : Blk (w.setCell ⟨g, 2, none⟩ x) g t #[a, b, x, d] := by have := h.set_ 2 x; rwa [set4_2] at this
theorem blk_3 (h : Blk w g t #[a, b, c, d]) : Blk (w.setCell ⟨g, 3, none⟩ x) g t #[a, b, c, x] := by have := h.set_ 3 x; rwa [set4_3] at this
theorem but_set {w0 : World} (h : But [g] w0 w) (o : Nat) (x : Value) : But [g] w0 (w.setCell ⟨g, o, none⟩ x) := h.set_ (p := ⟨g, o, none⟩) (.inl (by simp)) _
end

theorem new_any (w : World) : Calls Tryz.prog 27 #[] w fun e w' =>
   e = .returned (.pointer (some ⟨w.heap.size, 0, none⟩)) ∧ Rd w' w.heap.size none M.st ∧ Below w.heap.size w w' := by
 go_enter Tryz.func27, Tryz.ntmps27
 go_wp2
 go_ret
 exact ⟨rfl, ⟨0, Blk.new _ _ _, At.nil _⟩, (Below.refl _ _).alloc (Nat.le_refl _) _⟩

section
variable {w : World} {g : Nat} {p : Option Nat} {m : M}
theorem want_any (h : Rd w g p m) (k : OkM m) : Calls Tryz.prog 132 #[.pointer (some ⟨g, 0, none⟩)] w fun e w' => e = .returned (.int .i64 (wantM m : Int)) ∧ ∃ n, w' = w.drewN n := by
 obtain ⟨c, hb, -⟩ := h
 obtain ⟨h, s, b, e⟩ := m
 have h4 := k.h4
 have few := k.few
 have bd := k.bd
 simp only at h4 few bd hb
 have hc0 : w.cell? ⟨g, 0, none⟩ = some (.int .i64 (h : Int)) := by rw [hb.cell]; rfl
 have hc1 : w.cell? ⟨g, 1, none⟩ = some (.int .i64 (s : Int)) := by rw [hb.cell]; rfl
 have hc2 : w.cell? ⟨g, 2, none⟩ = some (.slice (ad p) b.length c) := by rw [hb.cell]; rfl
 have hc3 : w.cell? ⟨g, 3, none⟩ = some (.int .i64 (e : Int)) := by rw [hb.cell]; rfl
 clear hb k
 by_cases he : e = 0
 · subst he
   have few := few rfl
   have bd := bd rfl
   by_cases h3 : h < 4
   · have HW := Lib.hid (show wantM ⟨h, s, b, 0⟩ = 4 - h from by unfold wantM; rw [if_neg (by simp), if_pos h3])
     rw [HW.out]
     have h3i : (h : Int) < 4 := by omega
     have hsub : ((4 - h : Nat) : Int) = 4 - (h : Int) := by omega
     rw [hsub]
     clear hsub few bd HW
     go_enter Tryz.func132, Tryz.ntmps132
     go_wp2
     go_ret
     exact ⟨rfl, 0, rfl⟩
   · have HW := Lib.hid (show wantM ⟨h, s, b, 0⟩ = s - b.length from by unfold wantM; rw [if_neg (by simp), if_neg h3])
     rw [HW.out]
     generalize b.length = n at *
     generalize ad p = A at *
     have h3i : ¬ (h : Int) < 4 := by omega
     have hw : IntKind.i64.wrap ((s : Int) - (n : Int)) = ((s - n : Nat) : Int) := by rw [IntWalk.i64_in _ (by omega)]; omega
     clear HW
     go_enter Tryz.func132, Tryz.ntmps132
     go_wp2
     go_quiet (fail)
     go_wp2
     go_ret
     exact ⟨rfl, _, rfl⟩
 · have HW := Lib.hid (show wantM ⟨h, s, b, e⟩ = 0 from by unfold wantM; rw [if_pos he])
   rw [HW.out]
   have hei : (e : Int) ≠ 0 := by omega
   clear few bd HW
   go_enter Tryz.func132, Tryz.ntmps132
   go_wp2
   go_ret
   exact ⟨rfl, 0, rfl⟩
theorem whole_any (h : Rd w g p m) (k : OkM m) : Calls Tryz.prog 79 #[.pointer (some ⟨g, 0, none⟩)] w fun e w' => e = .returned (.bool (wholeM m)) ∧ ∃ n, w' = w.drewN n := by
 have HC := Lib.hid (want_any h k)
 obtain ⟨c, hb, -⟩ := h
 have hc3 : w.cell? ⟨g, 3, none⟩ = some (.int .i64 (m.e : Int)) := by rw [hb.cell]; rfl
 clear hb
 by_cases he : m.e = 0
 · have HW := Lib.hid (show wholeM m = decide (wantM m = 0) from by unfold wholeM; simp [he])
   rw [HW.out]
   clear HW
   rw [he] at hc3
   generalize wantM m = n at *
   have HD := Lib.hid (show ((n : Int) == 0) = decide (n = 0) from by rw [Bool.eq_iff_iff]; simp)
   clear k he
   go_enter Tryz.func79, Tryz.ntmps79
   go_wp2_with fail
   refine HC.out.mono ?_
   rintro e w1 ⟨rfl, q, rfl⟩
   go_wp2_with fail
   go_ret
   rw [← HD.out]
   exact ⟨rfl, q, rfl⟩
 · have HW := Lib.hid (whole_bad he)
   rw [HW.out]
   have hei : (m.e : Int) ≠ 0 := by omega
   clear HW HC
   generalize m.e = e at *
   go_enter Tryz.func79, Tryz.ntmps79
   go_wp2_with fail
   go_ret
   exact ⟨rfl, 0, rfl⟩
theorem body_any (h : Rd w g p m) (k : OkM m) : Calls Tryz.prog 45 #[.pointer (some ⟨g, 0, none⟩)] w fun e w' => ∃ v, e = .returned v ∧ Own w' w.heap.size v (bodyM m) ∧ Below w.heap.size w w' := by
 have HC := Lib.hid (whole_any h k)
 have HB := Lib.hid (show bodyM m = if wholeM m then m.b else [] from rfl)
 rw [HB.out]
 have hbl := k.bl
 obtain ⟨c, hb, ha⟩ := h
 have hc2 : w.cell? ⟨g, 2, none⟩ = some (.slice (ad p) m.b.length c) := by rw [hb.cell]; rfl
 have HA := Lib.hid ha.src.2
 clear hb k HB ha
 generalize m.b = b at *
 cases hw : wholeM m with
 | false =>
   rw [hw] at HC
   rw [if_neg (by simp)]
   go_enter Tryz.func45, Tryz.ntmps45
   go_wp2_with fail
   refine HC.out.mono ?_
   rintro e w1 ⟨rfl, q, rfl⟩
   go_wp2_with fail
   go_ret
   exact ⟨_, rfl, ⟨rfl, .inl ⟨rfl, rfl⟩⟩, below_drewN (Below.refl _ _) _⟩
 | true =>
   rw [hw] at HC
   rw [if_pos rfl]
   have HCl := Lib.hid (fun n => bclone_any (w.drewN n) (ad p) b.length c b HA.out (by omega))
   generalize b.length = n at *
   generalize ad p = A at *
   go_enter Tryz.func45, Tryz.ntmps45
   go_wp2_with fail
   refine HC.out.mono ?_
   rintro e w1 ⟨rfl, q, rfl⟩
   go_wp2_with fail
   refine (HCl.out q).mono ?_
   rintro e w2 ⟨v, rfl, hO, hb⟩
   have HO := Lib.hid hO
   have HB2 := Lib.hid hb
   clear hO hb
   go_wp2_with fail
   go_ret
   exact ⟨_, rfl, HO.out, (below_drewN (Below.refl _ _) q).trans HB2.out⟩
end
end Go.Proofs.YthfknndjdfofgaaGreatDoor.Sh
