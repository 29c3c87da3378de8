/-
  Contracts of package shake's begin and Take over this seat's translation: one byte is one step.
-/
import Derived.Test.YtjbcdagkjonlfaaShFns
namespace Go.Proofs.Ytjbcdagkjonlfaa.Sh
open Go.RowKit Go.Proofs.Ytjbcdagkjonlfaa.Wd

theorem zero_or (b : Nat) (hb : b < 9223372036854775808) : bits .or .i64 (0 : Int) (b : Int) = (b : Int) := by
  have h := Rc.i64_or_nat 0 b (by omega) hb
  rw [Nat.zero_or] at h
  exact h

theorem shl_16 (b : Nat) (hb : b < 256) : Op.shift .shl .i64 (b : Int) .i64 16 = pure (.int .i64 ((b * 65536 : Nat) : Int)) := by
  have h2 : (2 : Int) ^ min (16 : Int).toNat IntKind.i64.bits = 65536 := by decide
  rw [shift_shl_any _ _ _ _ (by decide), h2, IntWalk.i64_in _ (by omega)]
  congr 2
theorem shl_8 (b : Nat) (hb : b < 256) : Op.shift .shl .i64 (b : Int) .i64 8 = pure (.int .i64 ((b * 256 : Nat) : Int)) := by
  have h2 : (2 : Int) ^ min (8 : Int).toNat IntKind.i64.bits = 256 := by decide
  rw [shift_shl_any _ _ _ _ (by decide), h2, IntWalk.i64_in _ (by omega)]
  congr 2
theorem shl_0 (b : Nat) (hb : b < 256) : Op.shift .shl .i64 (b : Int) .i64 0 = pure (.int .i64 (b : Int)) := by
  have h2 : (2 : Int) ^ min (0 : Int).toNat IntKind.i64.bits = 1 := by decide
  rw [shift_shl_any _ _ _ _ (by decide), h2, IntWalk.i64_in _ (by omega)]
  congr 2
  omega
/-- behind begin: what it answers, and the message, whose error is not set yet -/
def BeginPost (w : World) (g : Nat) (A : Option Addr) (c : Nat) (s : M) (e : Ending) (w' : World) : Prop :=
  e = .returned (.int .i64 (s.e : Int)) ∧ Blk w' g 41 #[.int .i64 (s.h : Int), .int .i64 (s.s : Int), .slice A 0 c, .int .i64 0] ∧ But [g] w w'
set_option maxRecDepth 100000 in
set_option maxHeartbeats 1000000 in
theorem begin_any {w : World} {g h s cp : Nat} {A : Option Addr} (hB : Blk w g 41 #[.int .i64 (h : Int), .int .i64 (s : Int), .slice A 0 cp, .int .i64 0]) (k : OkM ⟨h, s, [], 0⟩) (h3 : h < 4) (c : UInt8) :
    Calls Try.prog 19 #[.pointer (some ⟨g, 0, none⟩), .int .u8 (c.toNat : Int)] w (BeginPost w g A cp (stepM ⟨h, s, [], 0⟩ c)) := by
  have HB := Lib.hid hB
  have hc0 : w.cell? ⟨g, 0, none⟩ = some (.int .i64 (h : Int)) := by rw [Blk.cell hB]; rfl
  have hc1 : w.cell? ⟨g, 1, none⟩ = some (.int .i64 (s : Int)) := by rw [Blk.cell hB]; rfl
  have hf0 := Blk.frozen hB 0
  have hf1 := Blk.frozen hB 1
  have hb := c.toNat_lt
  have hwb : IntKind.i64.wrap (c.toNat : Int) = (c.toNat : Int) := IntWalk.i64_in _ (by omega)
  have hw2 : IntKind.i64.wrap 2 = 2 := by decide
  have hw16 : IntKind.i64.wrap 16 = 16 := by decide
  have hw8 : IntKind.i64.wrap 8 = 8 := by decide
  have hw1 : IntKind.i64.wrap 1 = 1 := by decide
  have hw0 : IntKind.i64.wrap 0 = 0 := by decide
  have lo := k.lo rfl
  have mid := k.mid rfl
  have few := k.few rfl
  simp only at lo mid few
  have Hdef := Lib.hid (show stepM ⟨h, s, [], 0⟩ c = _ from by unfold stepM; rw [if_neg (by simp)])
  simp only at Hdef
  generalize stepM ⟨h, s, [], 0⟩ c = t at *
  generalize c.toNat = b at *
  clear hB k
  obtain rfl | rfl | rfl | rfl : h = 0 ∨ h = 1 ∨ h = 2 ∨ h = 3 := by omega
  · by_cases hy : b = 1
    · have HS := Lib.hid (show t = ⟨1, s, [], 0⟩ from by rw [Hdef.out, if_pos rfl, if_pos hy])
      have hbi : (b : Int) = 1 := by omega
      clear Hdef hy lo mid
      go_enter Try.func19, Try.ntmps19
      go_wp2
      go_ret
      rw [HS.out]
      exact ⟨rfl, blk_0 HB.out, but_set (But.refl _ _) _ _⟩
    · have HS := Lib.hid (show t = ⟨0, s, [], 4⟩ from by rw [Hdef.out, if_pos rfl, if_neg hy])
      have hbi : (b : Int) ≠ 1 := by omega
      clear Hdef hy lo mid
      go_enter Try.func19, Try.ntmps19
      go_wp2
      go_ret
      rw [HS.out]
      exact ⟨rfl, HB.out, But.refl _ _⟩
  · obtain rfl : s = 0 := lo (by omega)
    have hor := zero_or (b * 65536) (by omega)
    have hsh := shl_16 b (by omega)
    obtain ⟨v, hv⟩ : ∃ v, v = b * 65536 := ⟨_, rfl⟩
    rw [← hv] at hor hsh Hdef
    have hvl : v ≤ 16711680 := by omega
    by_cases hy : v ≤ 16384
    · have HS := Lib.hid (show t = ⟨2, v, [], 0⟩ from by rw [Hdef.out, if_neg (by simp), if_pos rfl, if_pos hy])
      have hbi : (v : Int) ≤ 16384 := by omega
      clear Hdef hy lo mid hv
      go_enter Try.func19, Try.ntmps19
      go_wp2
      go_region_law (fail)
      all_goals (
        have hk := show Blk (w.setCell ⟨g, 1, none⟩ (.int .i64 (v : Int))).drew g _ _ from blk_1 (x := .int .i64 (v : Int)) HB.out
        have hu := (but_set (But.refl [g] w) 1 (.int .i64 (v : Int))).drew
        have HK := Lib.hid hk
        have HU := Lib.hid hu
        clear hc0 hc1 hf0 hf1 HB hu
        generalize (w.setCell ⟨g, 1, none⟩ (.int .i64 (v : Int))).drew = w2 at *
        have hc0 : w2.cell? ⟨g, 0, none⟩ = some (.int .i64 1) := by rw [hk.cell]; rfl
        have hc1 : w2.cell? ⟨g, 1, none⟩ = some (.int .i64 (v : Int)) := by rw [hk.cell]; rfl
        have hf0 := hk.frozen 0
        clear hk
        go_wp2
        go_ret
        rw [HS.out]
        exact ⟨rfl, blk_0 HK.out, but_set HU.out _ _⟩)
    · have HS := Lib.hid (show t = ⟨1, v, [], 6⟩ from by rw [Hdef.out, if_neg (by simp), if_pos rfl, if_neg hy])
      have hbi : 16384 < (v : Int) := by omega
      clear Hdef hy lo mid hv
      go_enter Try.func19, Try.ntmps19
      go_wp2
      go_region_law (fail)
      all_goals (
        have hk := show Blk (w.setCell ⟨g, 1, none⟩ (.int .i64 (v : Int))).drew g _ _ from blk_1 (x := .int .i64 (v : Int)) HB.out
        have hu := (but_set (But.refl [g] w) 1 (.int .i64 (v : Int))).drew
        have HK := Lib.hid hk
        have HU := Lib.hid hu
        clear hc0 hc1 hf0 hf1 HB hu
        generalize (w.setCell ⟨g, 1, none⟩ (.int .i64 (v : Int))).drew = w2 at *
        have hc0 : w2.cell? ⟨g, 0, none⟩ = some (.int .i64 1) := by rw [hk.cell]; rfl
        have hc1 : w2.cell? ⟨g, 1, none⟩ = some (.int .i64 (v : Int)) := by rw [hk.cell]; rfl
        clear hk
        go_wp2
        go_ret
        rw [HS.out]
        exact ⟨rfl, HK.out, HU.out⟩)
  · obtain rfl : s = 0 := lo (by omega)
    have hor := zero_or (b * 256) (by omega)
    have hsh := shl_8 b (by omega)
    obtain ⟨v, hv⟩ : ∃ v, v = b * 256 := ⟨_, rfl⟩
    rw [← hv] at hor hsh Hdef
    have hvl : v ≤ 16711680 := by omega
    by_cases hy : v ≤ 16384
    · have HS := Lib.hid (show t = ⟨3, v, [], 0⟩ from by rw [Hdef.out, if_neg (by simp), if_neg (by simp), if_pos rfl, if_pos hy])
      have hbi : (v : Int) ≤ 16384 := by omega
      clear Hdef hy lo mid hv
      go_enter Try.func19, Try.ntmps19
      go_wp2
      go_region_law (fail)
      all_goals (
        have hk := show Blk (w.setCell ⟨g, 1, none⟩ (.int .i64 (v : Int))).drew g _ _ from blk_1 (x := .int .i64 (v : Int)) HB.out
        have hu := (but_set (But.refl [g] w) 1 (.int .i64 (v : Int))).drew
        have HK := Lib.hid hk
        have HU := Lib.hid hu
        clear hc0 hc1 hf0 hf1 HB hu
        generalize (w.setCell ⟨g, 1, none⟩ (.int .i64 (v : Int))).drew = w2 at *
        have hc0 : w2.cell? ⟨g, 0, none⟩ = some (.int .i64 2) := by rw [hk.cell]; rfl
        have hc1 : w2.cell? ⟨g, 1, none⟩ = some (.int .i64 (v : Int)) := by rw [hk.cell]; rfl
        have hf0 := hk.frozen 0
        clear hk
        go_wp2
        go_ret
        rw [HS.out]
        exact ⟨rfl, blk_0 HK.out, but_set HU.out _ _⟩)
    · have HS := Lib.hid (show t = ⟨2, v, [], 6⟩ from by rw [Hdef.out, if_neg (by simp), if_neg (by simp), if_pos rfl, if_neg hy])
      have hbi : 16384 < (v : Int) := by omega
      clear Hdef hy lo mid hv
      go_enter Try.func19, Try.ntmps19
      go_wp2
      go_region_law (fail)
      all_goals (
        have hk := show Blk (w.setCell ⟨g, 1, none⟩ (.int .i64 (v : Int))).drew g _ _ from blk_1 (x := .int .i64 (v : Int)) HB.out
        have hu := (but_set (But.refl [g] w) 1 (.int .i64 (v : Int))).drew
        have HK := Lib.hid hk
        have HU := Lib.hid hu
        clear hc0 hc1 hf0 hf1 HB hu
        generalize (w.setCell ⟨g, 1, none⟩ (.int .i64 (v : Int))).drew = w2 at *
        have hc0 : w2.cell? ⟨g, 0, none⟩ = some (.int .i64 2) := by rw [hk.cell]; rfl
        have hc1 : w2.cell? ⟨g, 1, none⟩ = some (.int .i64 (v : Int)) := by rw [hk.cell]; rfl
        clear hk
        go_wp2
        go_ret
        rw [HS.out]
        exact ⟨rfl, HK.out, HU.out⟩)
  · obtain ⟨a, rfl⟩ : ∃ a, s = a * 256 := ⟨s / 256, by have := mid rfl; omega⟩
    have hor := Rc.or_byte a b (by omega) (by omega)
    have hsh := shl_0 b (by omega)
    obtain ⟨v, hv⟩ : ∃ v, v = a * 256 + b := ⟨_, rfl⟩
    rw [← hv] at hor Hdef
    have hvl : v ≤ 16711680 := by omega
    by_cases hy : v ≤ 16384
    · have HS := Lib.hid (show t = ⟨4, v, [], 0⟩ from by rw [Hdef.out, if_neg (by simp), if_neg (by simp), if_neg (by simp), if_pos rfl, if_pos hy])
      have hbi : (v : Int) ≤ 16384 := by omega
      generalize a * 256 = s at *
      clear Hdef hy lo mid hv
      go_enter Try.func19, Try.ntmps19
      go_wp2
      go_region_law (fail)
      all_goals (
        have hk := show Blk (w.setCell ⟨g, 1, none⟩ (.int .i64 (v : Int))).drew g _ _ from blk_1 (x := .int .i64 (v : Int)) HB.out
        have hu := (but_set (But.refl [g] w) 1 (.int .i64 (v : Int))).drew
        have HK := Lib.hid hk
        have HU := Lib.hid hu
        clear hc0 hc1 hf0 hf1 HB hu
        generalize (w.setCell ⟨g, 1, none⟩ (.int .i64 (v : Int))).drew = w2 at *
        have hc0 : w2.cell? ⟨g, 0, none⟩ = some (.int .i64 3) := by rw [hk.cell]; rfl
        have hc1 : w2.cell? ⟨g, 1, none⟩ = some (.int .i64 (v : Int)) := by rw [hk.cell]; rfl
        have hf0 := hk.frozen 0
        clear hk
        go_wp2
        go_ret
        rw [HS.out]
        exact ⟨rfl, blk_0 HK.out, but_set HU.out _ _⟩)
    · have HS := Lib.hid (show t = ⟨3, v, [], 6⟩ from by rw [Hdef.out, if_neg (by simp), if_neg (by simp), if_neg (by simp), if_pos rfl, if_neg hy])
      have hbi : 16384 < (v : Int) := by omega
      generalize a * 256 = s at *
      clear Hdef hy lo mid hv
      go_enter Try.func19, Try.ntmps19
      go_wp2
      go_region_law (fail)
      all_goals (
        have hk := show Blk (w.setCell ⟨g, 1, none⟩ (.int .i64 (v : Int))).drew g _ _ from blk_1 (x := .int .i64 (v : Int)) HB.out
        have hu := (but_set (But.refl [g] w) 1 (.int .i64 (v : Int))).drew
        have HK := Lib.hid hk
        have HU := Lib.hid hu
        clear hc0 hc1 hf0 hf1 HB hu
        generalize (w.setCell ⟨g, 1, none⟩ (.int .i64 (v : Int))).drew = w2 at *
        have hc0 : w2.cell? ⟨g, 0, none⟩ = some (.int .i64 3) := by rw [hk.cell]; rfl
        have hc1 : w2.cell? ⟨g, 1, none⟩ = some (.int .i64 (v : Int)) := by rw [hk.cell]; rfl
        clear hk
        go_wp2
        go_ret
        rw [HS.out]
        exact ⟨rfl, HK.out, HU.out⟩)
end Go.Proofs.Ytjbcdagkjonlfaa.Sh
