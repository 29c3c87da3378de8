/-
  Contract of the document's own Take of layer 7 (hagioscoperef07): the same step.
-/
import Derived.Test.YtgjgffiogknefaaRcAll
namespace Go.Proofs.Ytgjgffiogknefaa.Rc
open Go.RowKit Go.Proofs.Ytgjgffiogknefaa.Wd

/-- the document's deframer at block g: how many bytes of a record came, how many its payload has -/
def Rr (w : World) (g : Nat) (d : D) : Prop :=
  ∃ A S : Nat, Blk w g 29 #[.int .i64 (A : Int), .int .i64 (S : Int), .int .i64 (d.e : Int), .int .i64 (d.n : Int)] ∧ S ≤ 70000 ∧ A ≤ 100000 ∧
    (d.e = 0 → (d.a ≤ 4 → A = d.a) ∧ (d.a = 4 → S = d.l) ∧ (d.a = 5 → 5 ≤ A ∧ S + 5 = A + d.l))
theorem Rr.same {w w' : World} {g : Nat} {d : D} (h : Rr w g d) (k : But [] w w') : Rr w' g d := by
  obtain ⟨A, S, h1, h2⟩ := h
  exact ⟨A, S, h1.but k (by simp), h2⟩
theorem Rr.but {T : List Nat} {w w' : World} {g : Nat} {d : D} (h : Rr w g d) (k : But T w w') (hg : g ∉ T) : Rr w' g d := by
  obtain ⟨A, S, h1, h2⟩ := h
  exact ⟨A, S, h1.but k hg, h2⟩
theorem Rr.below {B : Nat} {w w' : World} {g : Nat} {d : D} (h : Rr w g d) (k : Below B w w') (hg : g < B) : Rr w' g d := by
  obtain ⟨A, S, h1, h2⟩ := h
  exact ⟨A, S, h1.below k hg, h2⟩
theorem Rr.lt {w : World} {g : Nat} {d : D} (h : Rr w g d) : g < w.heap.size := by
  obtain ⟨A, S, h1, _⟩ := h
  exact h1.lt
theorem Rr.new (w : World) : Rr (w.alloc (.cells #[.int .i64 0, .int .i64 0, .int .i64 0, .int .i64 0] 29)) w.heap.size (D.st 0) :=
  ⟨0, 0, Blk.new _ _ _, by decide, by decide, fun _ => by simp [D.st]⟩

def RTakePost (w : World) (g : Nat) (d : D) (c : UInt8) (e : Ending) (w' : World) : Prop :=
  e = .returned (.tuple #[.bool (payD d), .int .i64 ((stepD d c).e : Int)]) ∧ Rr w' g (stepD d c) ∧ But [g] w w'
section
variable {w : World} {g l n S : Nat} {c : UInt8}
set_option maxRecDepth 100000
set_option maxHeartbeats 1000000
theorem rtake_bad {a e A : Nat} (h : Blk w g 29 #[.int .i64 (A : Int), .int .i64 (S : Int), .int .i64 (e : Int), .int .i64 (n : Int)]) (he : e ≠ 0) (hS : S ≤ 70000) (hA : A ≤ 100000) :
    Calls Try.prog 12 #[.pointer (some ⟨g, 0, none⟩), .int .u8 (c.toNat : Int)] w (RTakePost w g ⟨a, l, n, e⟩ c) := by
  have HB := Lib.hid h
  have hc2 : w.cell? ⟨g, 2, none⟩ = some (.int .i64 (e : Int)) := by rw [Blk.cell h]; rfl
  have hei : (e : Int) ≠ 0 := by omega
  have HP := Lib.hid (payD_no (d := ⟨a, l, n, e⟩) he)
  have HS := Lib.hid (stepD_stay (d := ⟨a, l, n, e⟩) he c)
  unfold RTakePost
  rw [HP.out, HS.out]
  clear h
  go_enter Try.func12, Try.ntmps12
  go_wp2
  go_quiet (fail)
  go_wp2
  go_ret2
  exact ⟨rfl, ⟨A, S, HB.out, hS, hA, fun h0 => absurd h0 he⟩, (But.refl _ _).drewN _⟩
theorem rtake_0 (h : Blk w g 29 #[.int .i64 (0 : Int), .int .i64 (S : Int), .int .i64 (0 : Int), .int .i64 (n : Int)]) (hS : S ≤ 70000) :
    Calls Try.prog 12 #[.pointer (some ⟨g, 0, none⟩), .int .u8 (c.toNat : Int)] w (RTakePost w g ⟨0, l, n, 0⟩ c) := by
  have HB := Lib.hid h
  have hc0 : w.cell? ⟨g, 0, none⟩ = some (.int .i64 0) := by rw [Blk.cell h]; rfl
  have hc1 : w.cell? ⟨g, 1, none⟩ = some (.int .i64 (S : Int)) := by rw [Blk.cell h]; rfl
  have hc2 : w.cell? ⟨g, 2, none⟩ = some (.int .i64 0) := by rw [Blk.cell h]; rfl
  have hf0 := Blk.frozen h 0
  have hf1 := Blk.frozen h 1
  have hf2 := Blk.frozen h 2
  have hb := c.toNat_lt
  unfold RTakePost
  rw [show payD ⟨0, l, n, 0⟩ = false from rfl]
  by_cases hy : c.toNat = 22
  · have HS := Lib.hid (show stepD ⟨0, l, n, 0⟩ c = ⟨1, l, n, 0⟩ from by unfold stepD; rw [if_neg (by simp), if_pos rfl, if_pos hy])
    rw [HS.out]
    generalize c.toNat = b at *
    have hv : S ≤ 70000 := by omega
    have hbi : (b : Int) = 22 := by omega
    have hne : (1 : Int) ≠ 5 + ((S : Int)) := by omega
    have hwr : IntKind.i64.wrap (5 + ((S : Int))) = 5 + ((S : Int)) := IntWalk.i64_in _ (by omega)
    clear h hy
    go_enter Try.func12, Try.ntmps12
    go_wp2
    have hk := blk_0 (x := .int .i64 1) HB.out
    have hu := but_set (But.refl [g] w) 0 (.int .i64 1)
    have HK := Lib.hid hk
    have HU := Lib.hid hu
    clear hc0 hc1 hc2 hf0 hf1 hf2 HB hu
    generalize w.setCell ⟨g, 0, none⟩ (.int .i64 1) = w2 at *
    have hc0 : w2.cell? ⟨g, 0, none⟩ = some (.int .i64 1) := by rw [hk.cell]; rfl
    have hc1 : w2.cell? ⟨g, 1, none⟩ = some (.int .i64 ((S : Int))) := by rw [hk.cell]; rfl
    clear hk
    go_quiet (fail)
    go_wp2
    go_ret2
    exact ⟨rfl, ⟨1, S, by first | exact HK.out | (simpa using HK.out), hv, by omega, fun _ => ⟨fun _ => rfl, fun h => absurd (show (1 : Nat) = 4 from h) (by decide), fun h => absurd (show (1 : Nat) = 5 from h) (by decide)⟩⟩, HU.out.drewN _⟩
  · have HS := Lib.hid (show stepD ⟨0, l, n, 0⟩ c = ⟨0, l, n, 4⟩ from by unfold stepD; rw [if_neg (by simp), if_pos rfl, if_neg hy])
    rw [HS.out]
    generalize c.toNat = b at *
    have hv : S ≤ 70000 := by omega
    have hbi : (b : Int) ≠ 22 := by omega
    clear h hy
    go_enter Try.func12, Try.ntmps12
    go_wp2
    have hk := blk_2 (x := .int .i64 4) HB.out
    have HK := Lib.hid hk
    have HU := Lib.hid (but_set (But.refl [g] w) 2 (.int .i64 4))
    clear hc0 hc1 hc2 hf0 hf1 hf2 HB
    generalize w.setCell ⟨g, 2, none⟩ (.int .i64 4) = w2 at *
    have hc2 : w2.cell? ⟨g, 2, none⟩ = some (.int .i64 4) := by rw [hk.cell]; rfl
    clear hk
    go_quiet (fail)
    go_wp2
    go_ret2
    exact ⟨rfl, ⟨0, S, by first | exact HK.out | (simpa using HK.out), hv, by omega, fun h => absurd (show (4 : Nat) = 0 from h) (by decide)⟩, HU.out.drewN _⟩
theorem rtake_1 (h : Blk w g 29 #[.int .i64 (1 : Int), .int .i64 (S : Int), .int .i64 (0 : Int), .int .i64 (n : Int)]) (hS : S ≤ 70000) :
    Calls Try.prog 12 #[.pointer (some ⟨g, 0, none⟩), .int .u8 (c.toNat : Int)] w (RTakePost w g ⟨1, l, n, 0⟩ c) := by
  have HB := Lib.hid h
  have hc0 : w.cell? ⟨g, 0, none⟩ = some (.int .i64 1) := by rw [Blk.cell h]; rfl
  have hc1 : w.cell? ⟨g, 1, none⟩ = some (.int .i64 (S : Int)) := by rw [Blk.cell h]; rfl
  have hc2 : w.cell? ⟨g, 2, none⟩ = some (.int .i64 0) := by rw [Blk.cell h]; rfl
  have hf0 := Blk.frozen h 0
  have hf1 := Blk.frozen h 1
  have hf2 := Blk.frozen h 2
  have hb := c.toNat_lt
  unfold RTakePost
  rw [show payD ⟨1, l, n, 0⟩ = false from rfl]
  by_cases hy : c.toNat = 3
  · have HS := Lib.hid (show stepD ⟨1, l, n, 0⟩ c = ⟨2, l, n, 0⟩ from by unfold stepD; rw [if_neg (by simp), if_neg (by simp), if_pos rfl, if_pos hy])
    rw [HS.out]
    generalize c.toNat = b at *
    have hv : S ≤ 70000 := by omega
    have hbi : (b : Int) = 3 := by omega
    have hne : (2 : Int) ≠ 5 + ((S : Int)) := by omega
    have hwr : IntKind.i64.wrap (5 + ((S : Int))) = 5 + ((S : Int)) := IntWalk.i64_in _ (by omega)
    clear h hy
    go_enter Try.func12, Try.ntmps12
    go_wp2
    have hk := blk_0 (x := .int .i64 2) HB.out
    have hu := but_set (But.refl [g] w) 0 (.int .i64 2)
    have HK := Lib.hid hk
    have HU := Lib.hid hu
    clear hc0 hc1 hc2 hf0 hf1 hf2 HB hu
    generalize w.setCell ⟨g, 0, none⟩ (.int .i64 2) = w2 at *
    have hc0 : w2.cell? ⟨g, 0, none⟩ = some (.int .i64 2) := by rw [hk.cell]; rfl
    have hc1 : w2.cell? ⟨g, 1, none⟩ = some (.int .i64 ((S : Int))) := by rw [hk.cell]; rfl
    clear hk
    go_quiet (fail)
    go_wp2
    go_ret2
    exact ⟨rfl, ⟨2, S, by first | exact HK.out | (simpa using HK.out), hv, by omega, fun _ => ⟨fun _ => rfl, fun h => absurd (show (2 : Nat) = 4 from h) (by decide), fun h => absurd (show (2 : Nat) = 5 from h) (by decide)⟩⟩, HU.out.drewN _⟩
  · have HS := Lib.hid (show stepD ⟨1, l, n, 0⟩ c = ⟨1, l, n, 5⟩ from by unfold stepD; rw [if_neg (by simp), if_neg (by simp), if_pos rfl, if_neg hy])
    rw [HS.out]
    generalize c.toNat = b at *
    have hv : S ≤ 70000 := by omega
    have hbi : (b : Int) ≠ 3 := by omega
    clear h hy
    go_enter Try.func12, Try.ntmps12
    go_wp2
    have hk := blk_2 (x := .int .i64 5) HB.out
    have HK := Lib.hid hk
    have HU := Lib.hid (but_set (But.refl [g] w) 2 (.int .i64 5))
    clear hc0 hc1 hc2 hf0 hf1 hf2 HB
    generalize w.setCell ⟨g, 2, none⟩ (.int .i64 5) = w2 at *
    have hc2 : w2.cell? ⟨g, 2, none⟩ = some (.int .i64 5) := by rw [hk.cell]; rfl
    clear hk
    go_quiet (fail)
    go_wp2
    go_ret2
    exact ⟨rfl, ⟨1, S, by first | exact HK.out | (simpa using HK.out), hv, by omega, fun h => absurd (show (5 : Nat) = 0 from h) (by decide)⟩, HU.out.drewN _⟩
theorem rtake_2 (h : Blk w g 29 #[.int .i64 (2 : Int), .int .i64 (S : Int), .int .i64 (0 : Int), .int .i64 (n : Int)]) (hS : S ≤ 70000) :
    Calls Try.prog 12 #[.pointer (some ⟨g, 0, none⟩), .int .u8 (c.toNat : Int)] w (RTakePost w g ⟨2, l, n, 0⟩ c) := by
  have HB := Lib.hid h
  have hc0 : w.cell? ⟨g, 0, none⟩ = some (.int .i64 2) := by rw [Blk.cell h]; rfl
  have hc1 : w.cell? ⟨g, 1, none⟩ = some (.int .i64 (S : Int)) := by rw [Blk.cell h]; rfl
  have hc2 : w.cell? ⟨g, 2, none⟩ = some (.int .i64 0) := by rw [Blk.cell h]; rfl
  have hf0 := Blk.frozen h 0
  have hf1 := Blk.frozen h 1
  have hf2 := Blk.frozen h 2
  have hb := c.toNat_lt
  unfold RTakePost
  rw [show payD ⟨2, l, n, 0⟩ = false from rfl]
  by_cases hy : c.toNat ≤ 4
  · have HS := Lib.hid (show stepD ⟨2, l, n, 0⟩ c = ⟨3, l, n, 0⟩ from by unfold stepD; rw [if_neg (by simp), if_neg (by simp), if_neg (by simp), if_pos rfl, if_pos hy])
    rw [HS.out]
    generalize c.toNat = b at *
    have hv : S ≤ 70000 := by omega
    have hbi : (b : Int) ≤ 4 := by omega
    have hne : (3 : Int) ≠ 5 + ((S : Int)) := by omega
    have hwr : IntKind.i64.wrap (5 + ((S : Int))) = 5 + ((S : Int)) := IntWalk.i64_in _ (by omega)
    clear h hy
    go_enter Try.func12, Try.ntmps12
    go_wp2
    have hk := blk_0 (x := .int .i64 3) HB.out
    have hu := but_set (But.refl [g] w) 0 (.int .i64 3)
    have HK := Lib.hid hk
    have HU := Lib.hid hu
    clear hc0 hc1 hc2 hf0 hf1 hf2 HB hu
    generalize w.setCell ⟨g, 0, none⟩ (.int .i64 3) = w2 at *
    have hc0 : w2.cell? ⟨g, 0, none⟩ = some (.int .i64 3) := by rw [hk.cell]; rfl
    have hc1 : w2.cell? ⟨g, 1, none⟩ = some (.int .i64 ((S : Int))) := by rw [hk.cell]; rfl
    clear hk
    go_quiet (fail)
    go_wp2
    go_ret2
    exact ⟨rfl, ⟨3, S, by first | exact HK.out | (simpa using HK.out), hv, by omega, fun _ => ⟨fun _ => rfl, fun h => absurd (show (3 : Nat) = 4 from h) (by decide), fun h => absurd (show (3 : Nat) = 5 from h) (by decide)⟩⟩, HU.out.drewN _⟩
  · have HS := Lib.hid (show stepD ⟨2, l, n, 0⟩ c = ⟨2, l, n, 5⟩ from by unfold stepD; rw [if_neg (by simp), if_neg (by simp), if_neg (by simp), if_pos rfl, if_neg hy])
    rw [HS.out]
    generalize c.toNat = b at *
    have hv : S ≤ 70000 := by omega
    have hbi : 4 < (b : Int) := by omega
    clear h hy
    go_enter Try.func12, Try.ntmps12
    go_wp2
    have hk := blk_2 (x := .int .i64 5) HB.out
    have HK := Lib.hid hk
    have HU := Lib.hid (but_set (But.refl [g] w) 2 (.int .i64 5))
    clear hc0 hc1 hc2 hf0 hf1 hf2 HB
    generalize w.setCell ⟨g, 2, none⟩ (.int .i64 5) = w2 at *
    have hc2 : w2.cell? ⟨g, 2, none⟩ = some (.int .i64 5) := by rw [hk.cell]; rfl
    clear hk
    go_quiet (fail)
    go_wp2
    go_ret2
    exact ⟨rfl, ⟨2, S, by first | exact HK.out | (simpa using HK.out), hv, by omega, fun h => absurd (show (5 : Nat) = 0 from h) (by decide)⟩, HU.out.drewN _⟩
theorem rtake_3 (h : Blk w g 29 #[.int .i64 (3 : Int), .int .i64 (S : Int), .int .i64 (0 : Int), .int .i64 (n : Int)]) (_hS : S ≤ 70000) :
    Calls Try.prog 12 #[.pointer (some ⟨g, 0, none⟩), .int .u8 (c.toNat : Int)] w (RTakePost w g ⟨3, l, n, 0⟩ c) := by
  have HB := Lib.hid h
  have hc0 : w.cell? ⟨g, 0, none⟩ = some (.int .i64 3) := by rw [Blk.cell h]; rfl
  have hc1 : w.cell? ⟨g, 1, none⟩ = some (.int .i64 (S : Int)) := by rw [Blk.cell h]; rfl
  have hc2 : w.cell? ⟨g, 2, none⟩ = some (.int .i64 0) := by rw [Blk.cell h]; rfl
  have hf0 := Blk.frozen h 0
  have hf1 := Blk.frozen h 1
  have hf2 := Blk.frozen h 2
  have hb := c.toNat_lt
  unfold RTakePost
  rw [show payD ⟨3, l, n, 0⟩ = false from rfl]
  by_cases hy : c.toNat * 256 ≤ 16384
  · have HS := Lib.hid (show stepD ⟨3, l, n, 0⟩ c = ⟨4, c.toNat * 256, n, 0⟩ from by unfold stepD; rw [if_neg (by simp), if_neg (by simp), if_neg (by simp), if_neg (by simp), if_pos rfl, if_pos hy])
    rw [HS.out]
    generalize c.toNat = b at *
    have hv : b * 256 ≤ 70000 := by omega
    have hbi : (b : Int) * 256 ≤ 16384 := by omega
    have hne : (4 : Int) ≠ 5 + ((b : Int) * 256) := by omega
    have hwr : IntKind.i64.wrap (5 + ((b : Int) * 256)) = 5 + ((b : Int) * 256) := IntWalk.i64_in _ (by omega)
    clear h hy
    go_enter Try.func12, Try.ntmps12
    go_wp2
    have hk := blk_0 (x := .int .i64 4) (blk_1 (x := .int .i64 ((b : Int) * 256)) HB.out)
    have hu := but_set (but_set (But.refl [g] w) 1 (.int .i64 ((b : Int) * 256))) 0 (.int .i64 4)
    have HK := Lib.hid hk
    have HU := Lib.hid hu
    clear hc0 hc1 hc2 hf0 hf1 hf2 HB hu
    generalize (w.setCell ⟨g, 1, none⟩ (.int .i64 ((b : Int) * 256))).setCell ⟨g, 0, none⟩ (.int .i64 4) = w2 at *
    have hc0 : w2.cell? ⟨g, 0, none⟩ = some (.int .i64 4) := by rw [hk.cell]; rfl
    have hc1 : w2.cell? ⟨g, 1, none⟩ = some (.int .i64 ((b : Int) * 256)) := by rw [hk.cell]; rfl
    clear hk
    go_quiet (fail)
    go_wp2
    go_ret2
    exact ⟨rfl, ⟨4, b * 256, by first | exact HK.out | (simpa using HK.out), hv, by omega, fun _ => ⟨fun _ => rfl, fun _ => rfl, fun h => absurd (show (4 : Nat) = 5 from h) (by decide)⟩⟩, HU.out.drewN _⟩
  · have HS := Lib.hid (show stepD ⟨3, l, n, 0⟩ c = ⟨3, c.toNat * 256, n, 6⟩ from by unfold stepD; rw [if_neg (by simp), if_neg (by simp), if_neg (by simp), if_neg (by simp), if_pos rfl, if_neg hy])
    rw [HS.out]
    generalize c.toNat = b at *
    have hv : b * 256 ≤ 70000 := by omega
    have hbi : 16384 < (b : Int) * 256 := by omega
    clear h hy
    go_enter Try.func12, Try.ntmps12
    go_wp2
    have hk := blk_2 (x := .int .i64 6) (blk_1 (x := .int .i64 ((b : Int) * 256)) HB.out)
    have HK := Lib.hid hk
    have HU := Lib.hid (but_set (but_set (But.refl [g] w) 1 (.int .i64 ((b : Int) * 256))) 2 (.int .i64 6))
    clear hc0 hc1 hc2 hf0 hf1 hf2 HB
    generalize (w.setCell ⟨g, 1, none⟩ (.int .i64 ((b : Int) * 256))).setCell ⟨g, 2, none⟩ (.int .i64 6) = w2 at *
    have hc2 : w2.cell? ⟨g, 2, none⟩ = some (.int .i64 6) := by rw [hk.cell]; rfl
    clear hk
    go_quiet (fail)
    go_wp2
    go_ret2
    exact ⟨rfl, ⟨3, b * 256, by first | exact HK.out | (simpa using HK.out), hv, by omega, fun h => absurd (show (6 : Nat) = 0 from h) (by decide)⟩, HU.out.drewN _⟩
theorem rtake_4 (h : Blk w g 29 #[.int .i64 (4 : Int), .int .i64 (S : Int), .int .i64 (0 : Int), .int .i64 (n : Int)]) (hS : S ≤ 70000) (hl : S ≤ 16384) :
    Calls Try.prog 12 #[.pointer (some ⟨g, 0, none⟩), .int .u8 (c.toNat : Int)] w (RTakePost w g ⟨4, S, n, 0⟩ c) := by
  have HB := Lib.hid h
  have hc0 : w.cell? ⟨g, 0, none⟩ = some (.int .i64 4) := by rw [Blk.cell h]; rfl
  have hc1 : w.cell? ⟨g, 1, none⟩ = some (.int .i64 (S : Int)) := by rw [Blk.cell h]; rfl
  have hc2 : w.cell? ⟨g, 2, none⟩ = some (.int .i64 0) := by rw [Blk.cell h]; rfl
  have hf0 := Blk.frozen h 0
  have hf1 := Blk.frozen h 1
  have hf2 := Blk.frozen h 2
  have hb := c.toNat_lt
  unfold RTakePost
  rw [show payD ⟨4, S, n, 0⟩ = false from rfl]
  by_cases hy : 1 ≤ S + c.toNat ∧ S + c.toNat ≤ 16384
  · have HS := Lib.hid (show stepD ⟨4, S, n, 0⟩ c = ⟨5, S + c.toNat, n, 0⟩ from by unfold stepD; rw [if_neg (by simp), if_neg (by simp), if_neg (by simp), if_neg (by simp), if_neg (by simp), if_pos rfl, if_pos hy])
    rw [HS.out]
    generalize c.toNat = b at *
    obtain ⟨v, hvv⟩ : ∃ v, v = S + b := ⟨_, rfl⟩
    rw [← hvv]
    have hadd : (S : Int) + (b : Int) = (v : Int) := by omega
    have hv : v ≤ 70000 := by omega
    have hbi : 1 ≤ (v : Int) := by omega
    have hbj : (v : Int) ≤ 16384 := by omega
    have hbk : ((v : Int) == 0) = false := by rw [beq_eq_false_iff_ne]; omega
    have hbl : ¬ v = 0 := by omega
    have hne : (5 : Int) ≠ 5 + ((v : Int)) := by omega
    have hwr : IntKind.i64.wrap (5 + ((v : Int))) = 5 + ((v : Int)) := IntWalk.i64_in _ (by omega)
    clear h hy hvv
    go_enter Try.func12, Try.ntmps12
    go_wp2
    have hk := blk_0 (x := .int .i64 5) (blk_1 (x := .int .i64 ((v : Int))) HB.out)
    have hu := but_set (but_set (But.refl [g] w) 1 (.int .i64 ((v : Int)))) 0 (.int .i64 5)
    have HK := Lib.hid hk
    have HU := Lib.hid hu
    clear hc0 hc1 hc2 hf0 hf1 hf2 HB hu
    generalize (w.setCell ⟨g, 1, none⟩ (.int .i64 ((v : Int)))).setCell ⟨g, 0, none⟩ (.int .i64 5) = w2 at *
    have hc0 : w2.cell? ⟨g, 0, none⟩ = some (.int .i64 5) := by rw [hk.cell]; rfl
    have hc1 : w2.cell? ⟨g, 1, none⟩ = some (.int .i64 ((v : Int))) := by rw [hk.cell]; rfl
    clear hk
    go_quiet (fail)
    go_wp2
    go_ret2
    exact ⟨rfl, ⟨5, v, by first | exact HK.out | (simpa using HK.out), hv, by omega, fun _ => ⟨fun h => absurd (show (5 : Nat) ≤ 4 from h) (by decide), fun h => absurd (show (5 : Nat) = 4 from h) (by decide), fun _ => ⟨Nat.le_refl _, by show v + 5 = 5 + (v); omega⟩⟩⟩, HU.out.drewN _⟩
  · have HS := Lib.hid (show stepD ⟨4, S, n, 0⟩ c = ⟨4, S + c.toNat, n, 6⟩ from by unfold stepD; rw [if_neg (by simp), if_neg (by simp), if_neg (by simp), if_neg (by simp), if_neg (by simp), if_pos rfl, if_neg hy])
    rw [HS.out]
    generalize c.toNat = b at *
    obtain ⟨v, hvv⟩ : ∃ v, v = S + b := ⟨_, rfl⟩
    rw [← hvv]
    have hadd : (S : Int) + (b : Int) = (v : Int) := by omega
    have hv : v ≤ 70000 := by omega
    by_cases h0 : v = 0
    · subst h0
      replace hadd : (S : Int) + (b : Int) = 0 := hadd
      clear h hy hvv
      go_enter Try.func12, Try.ntmps12
      go_wp2
      have hk := blk_2 (x := .int .i64 6) (blk_1 (x := .int .i64 (0 : Int)) HB.out)
      have HK := Lib.hid hk
      have HU := Lib.hid (but_set (but_set (But.refl [g] w) 1 (.int .i64 (0 : Int))) 2 (.int .i64 6))
      clear hc0 hc1 hc2 hf0 hf1 hf2 HB
      generalize (w.setCell ⟨g, 1, none⟩ (.int .i64 (0 : Int))).setCell ⟨g, 2, none⟩ (.int .i64 6) = w2 at *
      have hc2 : w2.cell? ⟨g, 2, none⟩ = some (.int .i64 6) := by rw [hk.cell]; rfl
      clear hk
      go_quiet (fail)
      go_wp2
      go_ret2
      exact ⟨rfl, ⟨4, 0, by first | exact HK.out | (simpa using HK.out), by omega, by omega, fun h => absurd (show (6 : Nat) = 0 from h) (by decide)⟩, HU.out.drewN _⟩
    · have hbk : ((v : Int) == 0) = false := by rw [beq_eq_false_iff_ne]; omega
      have hbl : ¬ v = 0 := h0
      have hbj : 16384 < (v : Int) := by omega
      clear h hy hvv
      go_enter Try.func12, Try.ntmps12
      go_wp2
      have hk := blk_2 (x := .int .i64 6) (blk_1 (x := .int .i64 ((v : Int))) HB.out)
      have HK := Lib.hid hk
      have HU := Lib.hid (but_set (but_set (But.refl [g] w) 1 (.int .i64 ((v : Int)))) 2 (.int .i64 6))
      clear hc0 hc1 hc2 hf0 hf1 hf2 HB
      generalize (w.setCell ⟨g, 1, none⟩ (.int .i64 ((v : Int)))).setCell ⟨g, 2, none⟩ (.int .i64 6) = w2 at *
      have hc2 : w2.cell? ⟨g, 2, none⟩ = some (.int .i64 6) := by rw [hk.cell]; rfl
      clear hk
      go_quiet (fail)
      go_wp2
      go_ret2
      exact ⟨rfl, ⟨4, v, by first | exact HK.out | (simpa using HK.out), hv, by omega, fun h => absurd (show (6 : Nat) = 0 from h) (by decide)⟩, HU.out.drewN _⟩
theorem rtake_5 {A : Nat} (h : Blk w g 29 #[.int .i64 (A : Int), .int .i64 (S : Int), .int .i64 (0 : Int), .int .i64 (n : Int)]) (hS : S ≤ 70000) (hA : 5 ≤ A) (hE : S + 5 = A + l) (hl : 1 ≤ l) (hn : n ≤ 4611686018427387904) :
    Calls Try.prog 12 #[.pointer (some ⟨g, 0, none⟩), .int .u8 (c.toNat : Int)] w (RTakePost w g ⟨5, l, n, 0⟩ c) := by
  have HB := Lib.hid h
  have hc0 : w.cell? ⟨g, 0, none⟩ = some (.int .i64 (A : Int)) := by rw [Blk.cell h]; rfl
  have hc1 : w.cell? ⟨g, 1, none⟩ = some (.int .i64 (S : Int)) := by rw [Blk.cell h]; rfl
  have hc2 : w.cell? ⟨g, 2, none⟩ = some (.int .i64 0) := by rw [Blk.cell h]; rfl
  have hf0 := Blk.frozen h 0
  unfold RTakePost
  rw [show payD ⟨5, l, n, 0⟩ = true from rfl]
  have hA2 : A ≤ 70004 := by omega
  have n0 : (A : Int) ≠ 0 := by omega
  have n1 : (A : Int) ≠ 1 := by omega
  have n2 : (A : Int) ≠ 2 := by omega
  have n3 : (A : Int) ≠ 3 := by omega
  have n4 : (A : Int) ≠ 4 := by omega
  obtain ⟨A1, hA1⟩ : ∃ A1, A1 = A + 1 := ⟨_, rfl⟩
  have hadd : (A : Int) + 1 = (A1 : Int) := by omega
  have h5 : (5 : Int) < (A1 : Int) := by omega
  by_cases h1 : l = 1
  · subst h1
    rw [show stepD ⟨5, 1, n, 0⟩ c = ⟨0, 0, n + 1, 0⟩ from rfl]
    have hwr : IntKind.i64.wrap (5 + (S : Int)) = (A1 : Int) := by rw [IntWalk.i64_in _ (by omega)]; omega
    have HA1 := Lib.hid hA1
    clear h hA1
    go_enter Try.func12, Try.ntmps12
    go_wp2
    have hk := blk_0 (x := .int .i64 (A1 : Int)) HB.out
    have HK := Lib.hid hk
    have HU := Lib.hid (but_set (But.refl [g] w) 0 (.int .i64 (A1 : Int)))
    clear hc0 hc1 hc2 hf0 HB
    generalize w.setCell ⟨g, 0, none⟩ (.int .i64 (A1 : Int)) = w2 at *
    have hc0 : w2.cell? ⟨g, 0, none⟩ = some (.int .i64 (A1 : Int)) := by rw [hk.cell]; rfl
    have hc1 : w2.cell? ⟨g, 1, none⟩ = some (.int .i64 (S : Int)) := by rw [hk.cell]; rfl
    clear hk
    go_quiet (fail)
    have HK2 := Lib.hid (show Blk (w2.drewN nq) g _ _ from HK.out)
    have HU2 := Lib.hid (HU.out.drewN nq)
    clear hc0 hc1 HK HU
    generalize w2.drewN nq = w3 at *
    have hc0 : w3.cell? ⟨g, 0, none⟩ = some (.int .i64 (A1 : Int)) := by rw [HK2.out.cell]; rfl
    have hc3 : w3.cell? ⟨g, 3, none⟩ = some (.int .i64 (n : Int)) := by rw [HK2.out.cell]; rfl
    have hf0 := HK2.out.frozen 0
    have hf3 := HK2.out.frozen 3
    go_wp2
    go_ret2
    refine ⟨rfl, ⟨0, S, ?_, hS, by omega, fun _ => ⟨fun _ => rfl, fun h => absurd (show (0 : Nat) = 4 from h) (by decide), fun h => absurd (show (0 : Nat) = 5 from h) (by decide)⟩⟩, but_set (but_set HU2.out _ _) _ _⟩
    have hz := blk_3 (x := .int .i64 ((n : Int) + 1)) (blk_0 (x := .int .i64 0) HK2.out)
    first | exact hz | (simpa using hz)
  · have hs : stepD ⟨5, l, n, 0⟩ c = ⟨5, l - 1, n, 0⟩ := by
      unfold stepD
      rw [if_neg (by simp), if_neg (by simp), if_neg (by simp), if_neg (by simp), if_neg (by simp), if_neg (by simp), if_neg h1]
    rw [hs]
    have hwr : IntKind.i64.wrap (5 + (S : Int)) = 5 + (S : Int) := IntWalk.i64_in _ (by omega)
    have hne : (A1 : Int) ≠ 5 + (S : Int) := by omega
    have HE : Hid (S + 5 = A1 + (l - 1)) := by show _ = _; omega
    have hA3 : 5 ≤ A1 ∧ A1 ≤ 100000 := by omega
    clear h hA1 hs hE
    go_enter Try.func12, Try.ntmps12
    go_wp2
    have hk := blk_0 (x := .int .i64 (A1 : Int)) HB.out
    have HK := Lib.hid hk
    have HU := Lib.hid (but_set (But.refl [g] w) 0 (.int .i64 (A1 : Int)))
    clear hc0 hc1 hc2 hf0 HB
    generalize w.setCell ⟨g, 0, none⟩ (.int .i64 (A1 : Int)) = w2 at *
    have hc0 : w2.cell? ⟨g, 0, none⟩ = some (.int .i64 (A1 : Int)) := by rw [hk.cell]; rfl
    have hc1 : w2.cell? ⟨g, 1, none⟩ = some (.int .i64 (S : Int)) := by rw [hk.cell]; rfl
    clear hk
    go_quiet (fail)
    go_wp2
    go_ret2
    exact ⟨rfl, ⟨A1, S, HK.out, hS, hA3.2, fun _ => ⟨fun h => absurd (show (5 : Nat) ≤ 4 from h) (by decide), fun h => absurd (show (5 : Nat) = 4 from h) (by decide), fun _ => ⟨hA3.1, HE.out⟩⟩⟩, HU.out.drewN _⟩
theorem rtake_any {d : D} (h : Rr w g d) (hd : OkD d) (hn : d.n ≤ 4611686018427387904) :
    Calls Try.prog 12 #[.pointer (some ⟨g, 0, none⟩), .int .u8 (c.toNat : Int)] w (RTakePost w g d c) := by
  obtain ⟨a, l, n, e⟩ := d
  obtain ⟨A, S, h1, hS, hA, hr⟩ := h
  obtain ⟨d1, d2, d3, d4⟩ := hd
  simp only at h1 hr d1 d2 d3 d4 hn
  by_cases he : e = 0
  · subst he
    obtain ⟨r1, r2, r3⟩ := hr rfl
    obtain ⟨o1, o2⟩ := d3 rfl
    obtain rfl | rfl | rfl | rfl | rfl | rfl : a = 0 ∨ a = 1 ∨ a = 2 ∨ a = 3 ∨ a = 4 ∨ a = 5 := by omega
    · obtain rfl := r1 (by decide); exact rtake_0 h1 hS
    · obtain rfl := r1 (by decide); exact rtake_1 h1 hS
    · obtain rfl := r1 (by decide); exact rtake_2 h1 hS
    · obtain rfl := r1 (by decide); exact rtake_3 h1 hS
    · obtain rfl := r1 (by decide)
      obtain rfl := r2 rfl
      exact rtake_4 h1 hS (o2 rfl).2
    · exact rtake_5 h1 hS (r3 rfl).1 (r3 rfl).2 (o1 rfl) hn
  · exact rtake_bad h1 he hS hA
end
end Go.Proofs.Ytgjgffiogknefaa.Rc
